/-
  The fixed answers that each statement asks first.
-/
import Derived.Test.YtokdjaljeckghaaPr
namespace Go.Proofs.Ytokdjaljeckghaa
open Go.RowKit
def wakeD : List Pt.Po := [⟨3, [0, 2]⟩, ⟨4, [1]⟩]
theorem wake_pack : Pt.pack wakeD = ([130, 2, 7, 130, 2, 6, 131, 2, 24], 0) := by decide +kernel
theorem wake_read : Pt.read [130, 2, 7, 130, 2, 6, 131, 2, 24] = (wakeD, 0) := by decide +kernel
/-- The call's own postings, as laid. -/
theorem wake_rows (w : World) : PoS (fun _ => True) (((w.alloc (.cells #[.int .i64 0, .int .i64 2] 3)).alloc (.cells #[.int .i64 1] 3)).alloc (.cells #[.int .i64 3, .slice (some ⟨w.heap.size, 0, none⟩) 2 2, .int .i64 4, .slice (some ⟨w.heap.size + 1, 0, none⟩) 1 1] 40)) (.slice (some ⟨w.heap.size + 2, 0, none⟩) 2 2) wakeD := by
  obtain ⟨w1, h1⟩ : ∃ w1, w1 = w.alloc (.cells #[.int .i64 0, .int .i64 2] 3) := ⟨_, rfl⟩
  obtain ⟨w2, h2⟩ : ∃ w2, w2 = w1.alloc (.cells #[.int .i64 1] 3) := ⟨_, rfl⟩
  have i1 : IntS w1 (.slice (some ⟨w.heap.size, 0, none⟩) 2 2) [0, 2] := by rw [h1]; exact ints_lit w [0, 2] (by simp)
  have i2 : IntS w2 (.slice (some ⟨w1.heap.size, 0, none⟩) 1 1) [1] := by rw [h2]; exact ints_lit w1 [1] (by simp)
  have s1 : w1.heap.size = w.heap.size + 1 := by rw [h1]; simp
  have s2 : w2.heap.size = w.heap.size + 2 := by rw [h2]; simp [s1]
  have b1 : Below w1.heap.size w1 w2 := by rw [h2]; exact (Below.refl _ _).alloc (Nat.le_refl _) _
  rw [← h1, ← h2, ← s1, ← s2]
  obtain ⟨w3, h3⟩ : ∃ w3, w3 = w2.alloc (.cells #[.int .i64 3, .slice (some ⟨w.heap.size, 0, none⟩) 2 2, .int .i64 4, .slice (some ⟨w1.heap.size, 0, none⟩) 1 1] 40) := ⟨_, rfl⟩
  have b2 : Below w2.heap.size w2 w3 := by rw [h3]; exact (Below.refl _ _).alloc (Nat.le_refl _) _
  have hx : w3.heap[w2.heap.size]? = some (.cells #[.int .i64 3, .slice (some ⟨w.heap.size, 0, none⟩) 2 2, .int .i64 4, .slice (some ⟨w1.heap.size, 0, none⟩) 1 1] 40 (0, 0)) := by rw [h3]; exact Go.Deep.blk_alloc_new _ _
  rw [← h3]
  have q1 := ((i1.below b1 (Nat.le_refl _)).below b2 (Nat.le_refl _)).intF
  have q2 := (i2.below b2 (Nat.le_refl _)).intF
  refine ⟨some ⟨w2.heap.size, 0, none⟩, 2, rfl, Nat.le_refl _, by omega, fun _ => ⟨w2.heap.size, 0, rfl, blk_lt hx, trivial, fun j hj => ?_⟩⟩
  have hj2 : j = 0 ∨ j = 1 := by
    have : wakeD.length = 2 := rfl
    omega
  rcases hj2 with rfl | rfl
  · exact ⟨by simp [World.cell?, hx, wakeD], _, by simp [World.cell?, hx], q1⟩
  · exact ⟨by simp [World.cell?, hx, wakeD], _, by simp [World.cell?, hx], q2⟩
set_option maxRecDepth 100000 in
set_option maxHeartbeats 2000000 in
theorem awake14_any (w : World) : Calls Try.prog 13 #[] w fun e w' => e = .returned (.bool true) ∧ Below w.heap.size w w' := by
  have hbw : Hid (Below w.heap.size w (((w.alloc (.cells #[.int .i64 0, .int .i64 2] 3)).alloc (.cells #[.int .i64 1] 3)).alloc (.cells #[.int .i64 3, .slice (some ⟨w.heap.size, 0, none⟩) 2 2, .int .i64 4, .slice (some ⟨w.heap.size + 1, 0, none⟩) 1 1] 40))) := (((Below.refl _ _).alloc (Nat.le_refl _) _).alloc (by simp) _).alloc (by simp; omega) _
  have h1 := Lib.hid (pack_any _ _ _ wakeD (wake_rows w) (by decide))
  rw [wake_pack] at h1
  have h2 : Hid (∀ w', Calls Try.prog 17 #[.string ⟨#[130, 2, 7, 130, 2, 6, 131, 2, 24]⟩] w' fun e w'' => ∃ g a0 n0 c0, e = .returned (.tuple #[.slice (some ⟨g, 0, none⟩) 2 2, .int .i64 0]) ∧ Below w'.heap.size w' w'' ∧ w''.cell? ⟨g, 0, none⟩ = some (.int .i64 3) ∧ w''.cell? ⟨g, 1, none⟩ = some (.slice a0 2 c0) ∧ n0 = 2) := fun w' => by
    have h := read_any w' ⟨#[130, 2, 7, 130, 2, 6, 131, 2, 24]⟩ (by decide)
    rw [show (⟨#[130, 2, 7, 130, 2, 6, 131, 2, 24]⟩ : ByteArray).data.toList = [130, 2, 7, 130, 2, 6, 131, 2, 24] from rfl] at h
    refine h.mono ?_
    rintro e w'' ⟨v, rfl, hb, h | ⟨_, g, n, vs, rfl, hn, hP⟩⟩
    · rw [wake_read] at h
      exact absurd rfl h.1
    · rw [wake_read] at hn hP ⊢
      obtain rfl : n = 2 := hn
      have hO := hP.whole rfl (by omega)
      obtain ⟨g', a', cap', f1, _, _, f4, _, _, f6, _⟩ := hO.opened
      injection f1 with f1 _ f3
      have f5 := (f4 (by decide)).1
      rw [← f1] at f5
      injection f5 with f5
      injection f5 with f5
      subst f5
      obtain ⟨x1, x2⟩ := f6 0 (by decide) (by rw [hP.len]; decide)
      obtain ⟨g2, x3⟩ := (hP.each 0 (by decide) (by rw [hP.len]; decide)).2
      rw [x3] at x2
      exact ⟨g, _, 2, _, rfl, hb, x1, x2, rfl⟩
  go_enter Try.func13, Try.ntmps13
  go_wp2_with (first
    | (go_at_call 11; refine h1.out.mono ?_; rintro e1 w1 ⟨rfl, hb⟩; have HB := Lib.hid (hbw.out.trans (hb.mono hbw.out.size)); clear hb)
    | (go_at_call 17; refine (h2.out _).mono ?_; rintro e1 w2 ⟨g, a0, n0, c0, rfl, hb, y1, y2, _⟩; have HB2 : Hid (Below w.heap.size w w2) := HB.out.trans (hb.mono HB.out.size); clear hb))
  go_ret
  exact ⟨rfl, HB2.out⟩
end Go.Proofs.Ytokdjaljeckghaa
