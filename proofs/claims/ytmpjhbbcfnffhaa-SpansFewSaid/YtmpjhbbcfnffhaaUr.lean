/-
  The document's own answers on single characters: words, folding, their bytes, and which one bytes would be.
-/
import Derived.Test.YtmpjhbbcfnffhaaUe
namespace Go.Proofs.Ytmpjhbbcfnffhaa
open Go.RowKit

/-- 'string([]byte{..})' of a character's bytes. -/
theorem rune_conv (c : Int) (cs : Array Value) (k : Nat) (h : Lib.runeCells c = cs.toList) (hk : cs.size = k) (w : World) :
    (convert 61 9 (.slice (some ⟨w.heap.size, 0, none⟩) k k)).run Try.prog (w.alloc (.cells cs 5)) = .ok (.string ⟨(Lib.encodeRune c).toArray⟩) (w.alloc (.cells cs 5)) := by
  have hl : (Lib.encodeRune c).length = k := by
    rw [← hk, ← Array.length_toList, ← h, ← Ut.bytes_rune, bytesV_length]
  subst hl
  refine run_convert_bytes_back (P := Try.prog) _ 61 9 5 ⟨w.heap.size, 0, none⟩ _ (Lib.encodeRune c) Try.underlying61 Try.underlying5 Try.underlying9 fun j hj => ?_
  rw [Addr.add_lit, Nat.zero_add, World.cell?_alloc_at _ _ _ _ rfl, ← Array.getElem?_toList, ← h, ← Ut.bytes_rune]
  simp [bytesV, hj]
theorem tdiv_pos (c d : Int) (h : 0 ≤ c) : c.tdiv d = c / d := Int.tdiv_eq_ediv_of_nonneg h
theorem tmod_pos (c d : Int) (h : 0 ≤ c) : c.tmod d = c % d := Int.tmod_eq_emod_of_nonneg h

set_option maxRecDepth 100000 in
set_option maxHeartbeats 2000000 in
theorem one_any (c : Int) (h : Ut.whole c = true) (w : World) :
    Calls Try.prog 23 #[.int .i64 c] w fun e w' => e = .returned (.string ⟨(Lib.encodeRune c).toArray⟩) ∧ Below w.heap.size w w' := by
  have hcv := fun cs k h1 h2 => rune_conv c cs k h1 h2 w
  have HB : ∀ o, Hid (Below w.heap.size w (w.alloc o)) := fun o => (Below.refl _ _).alloc (Nat.le_refl _) _
  unfold Lib.runeCells at hcv
  generalize Lib.encodeRune c = S at *
  rcases Ut.run_cases c h with ⟨h1, h2, e⟩ | ⟨h1, h2, e⟩ | ⟨h1, e⟩ | ⟨h1, h2, e⟩
  · rw [e] at hcv
    have hcv1 := hcv #[.int .u8 c] 1 rfl rfl
    clear hcv e h
    go_enter Try.func23, Try.ntmps23
    go_wp2_with fail
    go_ret
    exact ⟨rfl, (HB _).out⟩
  · rw [e] at hcv
    have hcv1 := hcv #[.int .u8 (192 + c / 64), .int .u8 (128 + c % 64)] 2 rfl rfl
    have d1 := tdiv_pos c 64 (by omega)
    have m1 := tmod_pos c 64 (by omega)
    have b1 : 0 ≤ c / 64 ∧ c / 64 < 32 := by omega
    have b2 : 0 ≤ c % 64 ∧ c % 64 < 64 := by omega
    generalize c / 64 = q1 at *
    generalize c % 64 = r1 at *
    clear hcv e h
    go_enter Try.func23, Try.ntmps23
    go_wp2_with fail
    go_ret
    exact ⟨rfl, (HB _).out⟩
  · rw [e] at hcv
    have hcv1 := hcv #[.int .u8 (224 + c / 4096), .int .u8 (128 + c / 64 % 64), .int .u8 (128 + c % 64)] 3 rfl rfl
    have d1 := tdiv_pos c 64 (by omega)
    have d2 := tdiv_pos c 4096 (by omega)
    have m1 := tmod_pos c 64 (by omega)
    have m2 := tmod_pos (c / 64) 64 (by omega)
    have b1 : 0 ≤ c / 64 ∧ c / 64 < 1024 := by omega
    have b2 : 0 ≤ c % 64 ∧ c % 64 < 64 := by omega
    have b3 : 0 ≤ c / 4096 ∧ c / 4096 < 16 := by omega
    have b4 : 0 ≤ c / 64 % 64 ∧ c / 64 % 64 < 64 := by omega
    have n1 : ¬ c < 2048 := by omega
    have n2 : c < 65536 := by omega
    generalize c / 64 % 64 = r2 at *
    generalize c / 64 = q1 at *
    generalize c / 4096 = q2 at *
    generalize c % 64 = r1 at *
    clear hcv e h
    go_enter Try.func23, Try.ntmps23
    go_wp2_with fail
    go_ret
    exact ⟨rfl, (HB _).out⟩
  · rw [e] at hcv
    have hcv1 := hcv #[.int .u8 (240 + c / 262144), .int .u8 (128 + c / 4096 % 64), .int .u8 (128 + c / 64 % 64), .int .u8 (128 + c % 64)] 4 rfl rfl
    have d1 := tdiv_pos c 64 (by omega)
    have d2 := tdiv_pos c 4096 (by omega)
    have d3 := tdiv_pos c 262144 (by omega)
    have m1 := tmod_pos c 64 (by omega)
    have m2 := tmod_pos (c / 64) 64 (by omega)
    have m3 := tmod_pos (c / 4096) 64 (by omega)
    have b1 : 0 ≤ c / 64 ∧ c / 64 < 100000 := by omega
    have b2 : 0 ≤ c % 64 ∧ c % 64 < 64 := by omega
    have b3 : 0 ≤ c / 4096 ∧ c / 4096 < 1000 := by omega
    have b4 : 0 ≤ c / 64 % 64 ∧ c / 64 % 64 < 64 := by omega
    have b5 : 0 ≤ c / 262144 ∧ c / 262144 < 8 := by omega
    have b6 : 0 ≤ c / 4096 % 64 ∧ c / 4096 % 64 < 64 := by omega
    generalize c / 64 % 64 = r2 at *
    generalize c / 4096 % 64 = r3 at *
    generalize c / 64 = q1 at *
    generalize c / 4096 = q2 at *
    generalize c / 262144 = q3 at *
    generalize c % 64 = r1 at *
    clear hcv e h
    go_enter Try.func23, Try.ntmps23
    go_wp2_with fail
    go_ret
    exact ⟨rfl, (HB _).out⟩
end Go.Proofs.Ytmpjhbbcfnffhaa
