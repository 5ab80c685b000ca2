/-
  The document's own Holds, Characters and Bytes; the fixed answers.
-/
import Derived.Test.YtmpjhbbcfnffhaaYi
namespace Go.Proofs.Ytmpjhbbcfnffhaa
open Go.RowKit

theorem RowsO.form {w : World} {B : Nat} {v : Value} {gs : List Nat} {L : List (List (Int × Int))} (h : RowsO w B v gs L) : ∃ a cap, v = .slice a L.length cap ∧ L.length ≤ cap ∧ cap ≤ 9223372036854775807 ∧ (0 < L.length → ∃ g, a = some ⟨g, 0, none⟩ ∧ B ≤ g ∧ g < w.heap.size ∧
    ∀ j (h1 : j < gs.length) (h2 : j < L.length), w.cell? ⟨g, j, none⟩ = some (.slice (some ⟨gs[j], 0, none⟩) L[j].length L[j].length)) := by
  rcases h.own.2 with ⟨h1, h0⟩ | ⟨g, cap, cur, h1, hg, hh, hnc, hcp, hcs, htake⟩
  · exact ⟨none, 0, by rw [h1, h0], by omega, by omega, fun h => by omega⟩
  · subst h1
    have hown : w.ownsRow B 24 1 (.slice (some ⟨g, 0, none⟩) L.length cap) L.length (rowVs gs L) := h.own
    refine ⟨_, cap, rfl, hnc, by unfold maxLen at hcp; omega, fun _ => ⟨g, rfl, hg, (hown.lt g rfl).2, fun j a b => ?_⟩⟩
    rw [hown.cellAt j (by omega), rowVs_at j a b]
theorem count_step {α : Type} (p : α → Bool) (l : List α) (k : Nat) (h : k < l.length) : (((l.take (k + 1)).filter p).length : Int) = ((l.take k).filter p).length + (if p l[k] = true then 1 else 0) := by
  rw [List.take_succ_eq_append_getElem h, List.filter_append]
  by_cases e : p l[k] = true <;> simp [e]

set_option maxRecDepth 100000 in
set_option maxHeartbeats 1000000 in
theorem holds_any (w : World) (B : Nat) (v : Value) (gs : List Nat) (L : List (List (Int × Int))) (h : RowsO w B v gs L) (h4 : ∀ r ∈ L, r.length ≤ 4) (hL : L.length ≤ 20) (s : ByteArray) :
    Calls Try.prog 11 #[v, .string s] w fun e w' => e = .returned (.int .i64 ((L.filter fun r => Sp.fits r s.data.toList).length : Int)) ∧ Below w.heap.size w w' := by
  obtain ⟨a, cap, rfl, _, _, hform⟩ := h.form
  have HF := Lib.hid hform
  have HO := Lib.hid h
  have H4 := Lib.hid h4
  obtain ⟨n, hn⟩ : ∃ n, n = L.length := ⟨_, rfl⟩
  have HN := Lib.hid hn
  rw [← hn] at hL ⊢
  clear hform h h4 hn
  go_enter Try.func11, Try.ntmps11
  go_wp2_with fail
  go_loopg [5, 6] n (fun g c i wx => ∃ k : Nat, k ≤ n ∧ g = n - k ∧ i = .int .i64 k ∧ c = .int .i64 (((L.take k).filter fun r => Sp.fits r s.data.toList).length : Int) ∧ Hid (Below w.heap.size w wx))
  case atStart => exact ⟨0, Nat.zero_le _, rfl, rfl, rfl, Below.refl _ _⟩
  case round =>
    obtain ⟨k, hk, rfl, rfl, rfl, hbel⟩ := hrel
    by_cases hkn : k < n
    · have i1 : (k : Int) < (n : Int) := by omega
      have hkL : k < L.length := by rw [← HN.out]; exact hkn
      have hkg : k < gs.length := by rw [HO.out.len]; exact hkL
      obtain ⟨g, rfl, _, hg, hcell⟩ := HF.out (by omega)
      have c1 : wr.cell? ⟨g, k, none⟩ = some (.slice (some ⟨gs[k], 0, none⟩) L[k].length L[k].length) := (hbel.out.cell (p := ⟨g, k, none⟩) hg).trans (hcell k hkg hkL)
      have hR := (HO.out.row k hkg hkL).2
      have HC := Lib.hid (fits_any wr gs[k] L[k] L[k].length rfl (hR.below hbel.out hR.lt) (H4.out _ (List.getElem_mem hkL)) s)
      have hst := count_step (fun r => Sp.fits r s.data.toList) L k hkL
      have hle : ((L.take k).filter fun r => Sp.fits r s.data.toList).length ≤ 20 := Nat.le_trans (List.length_filter_le _ _) (Nat.le_trans (List.length_take_le _ _) (by omega))
      have HST := Lib.hid hst
      clear hst hcell hR
      generalize ((L.take k).filter fun r => Sp.fits r s.data.toList).length = C at *
      generalize L[k].length = m at *
      go_wp2_with fail
      refine HC.out.mono ?_
      rintro e w2 ⟨rfl, hb2⟩
      have HB2 : Hid (Below w.heap.size w w2) := hbel.out.trans (hb2.mono hbel.out.size)
      clear hb2
      cases hf : Sp.fits L[k] s.data.toList
      · have HE : Hid ((((L.take (k + 1)).filter fun r => Sp.fits r s.data.toList).length : Int) = C) := by show _ = _; rw [HST.out, hf]; simp
        clear hf
        go_wp2_with fail
        go_roundg (n - (k + 1))
        case rel => exact ⟨k + 1, by omega, rfl, by go_num, by rw [HE.out], HB2⟩
        case measure => omega
      · have HE : Hid ((((L.take (k + 1)).filter fun r => Sp.fits r s.data.toList).length : Int) = C + 1) := by show _ = _; rw [HST.out, hf]; simp
        clear hf
        go_wp2_with fail
        go_roundg (n - (k + 1))
        case rel => exact ⟨k + 1, by omega, rfl, by go_num, by rw [HE.out], HB2⟩
        case measure => omega
    · obtain rfl : k = n := by omega
      have e : L.take k = L := List.take_of_length_le (by rw [← HN.out]; exact Nat.le_refl _)
      rw [e]
      clear e
      go_wp2_with fail
      go_ret
      exact ⟨rfl, hbel.out⟩

theorem bytes_any (c : Int) (w : World) :
    Calls Try.prog 12 #[.int .i64 c] w fun e w' => e = .returned (.string (Sp.txt c)) ∧ Below w.heap.size w w' := by
  have H1 : Hid (∀ w : World, Calls Try.prog 17 #[.slice (some ⟨w.heap.size, 0, none⟩) 1 1] (w.alloc (.cells #[.int .i64 c] 3)) fun e w' => e = .returned (.tuple #[.string (Sp.txt c), .int .i64 (Ut.encE [c])]) ∧ Below (w.alloc (.cells #[.int .i64 c] 3)).heap.size (w.alloc (.cells #[.int .i64 c] 3)) w') := fun w => encodeR_any _ _ [c] (ints_lit w [c] (by simp)) (by simp)
  generalize Sp.txt c = s at *
  generalize Ut.encE [c] = e1 at *
  go_enter Try.func12, Try.ntmps12
  go_wp2_with fail
  refine (H1.out w).mono ?_
  rintro e w1 ⟨rfl, hb1⟩
  have HB1 : Hid (Below w.heap.size w w1) := ((Below.refl _ _).alloc (Nat.le_refl _) _).trans (hb1.mono (by simp))
  clear hb1
  go_wp2_with fail
  go_ret
  exact ⟨rfl, HB1.out⟩
namespace Sp
/-- How many characters of a part are from lo to hi. -/
def part (lo hi f l : Int) : Int := if max lo f ≤ min hi l then min hi l - max lo f + 1 else 0
theorem chars_parts (lo hi : Int) : chars lo hi = part lo hi 0 55295 + part lo hi 57344 1114111 := rfl
theorem part_bd (lo hi f l : Int) (h0 : 0 ≤ f) (h1 : l ≤ 1114111) : 0 ≤ part lo hi f l ∧ part lo hi f l ≤ 1114112 := by
  unfold part
  split <;> omega
def charsUpto (lo hi : Int) (t : Nat) : Int := if t = 0 then 0 else if t = 1 then part lo hi 0 55295 else chars lo hi
end Sp
set_option maxRecDepth 100000 in
set_option maxHeartbeats 2000000 in
theorem chars_any (lo hi : Int) (w : World) :
    Calls Try.prog 9 #[.int .i64 lo, .int .i64 hi] w fun e w' => e = .returned (.int .i64 (Sp.chars lo hi)) ∧ Below w.heap.size w w' := by
  go_enter Try.func9, Try.ntmps9
  go_wp2_with fail
  have HB0 : Hid (∀ o, Below w.heap.size w (w.alloc o)) := fun o => (Below.refl _ _).alloc (Nat.le_refl _) o
  obtain ⟨w1, hw1⟩ : ∃ w1, w1 = w.alloc (.cells #[.int .i64 0, .int .i64 55295, .int .i64 57344, .int .i64 1114111] 49) := ⟨_, rfl⟩
  have HB1 : Hid (Below w.heap.size w w1) := by rw [hw1]; exact HB0.out _
  have c0 : w1.cell? ⟨w.heap.size, 0, none⟩ = some (.int .i64 0) := by rw [hw1, World.cell?_alloc_at _ _ _ _ rfl]; rfl
  have c1 : w1.cell? ⟨w.heap.size, 1, none⟩ = some (.int .i64 55295) := by rw [hw1, World.cell?_alloc_at _ _ _ _ rfl]; rfl
  have c2 : w1.cell? ⟨w.heap.size, 2, none⟩ = some (.int .i64 57344) := by rw [hw1, World.cell?_alloc_at _ _ _ _ rfl]; rfl
  have c3 : w1.cell? ⟨w.heap.size, 3, none⟩ = some (.int .i64 1114111) := by rw [hw1, World.cell?_alloc_at _ _ _ _ rfl]; rfl
  rw [← hw1]
  clear hw1 HB0
  have u0 : Sp.charsUpto lo hi 0 = 0 := rfl
  have u1 : Sp.charsUpto lo hi 1 = Sp.part lo hi 0 55295 := rfl
  have u2 : Sp.charsUpto lo hi 2 = Sp.part lo hi 0 55295 + Sp.part lo hi 57344 1114111 := rfl
  have p1 := Sp.part_bd lo hi 0 55295 (by omega) (by omega)
  have d1 : Sp.part lo hi 0 55295 = if max lo 0 ≤ min hi 55295 then min hi 55295 - max lo 0 + 1 else 0 := rfl
  have d2 : Sp.part lo hi 57344 1114111 = if max lo 57344 ≤ min hi 1114111 then min hi 1114111 - max lo 57344 + 1 else 0 := rfl
  have D1 := Lib.hid d1
  have D2 := Lib.hid d2
  have U0 := Lib.hid u0
  have U1 := Lib.hid u1
  have U2 := Lib.hid u2
  obtain ⟨q1, q2⟩ := p1
  clear d1 d2 u0 u1 u2
  go_loop [5, 7] (fun n i => ∃ t : Nat, t ≤ 2 ∧ i = .int .i64 t ∧ n = .int .i64 (Sp.charsUpto lo hi t)) (fun _ i => 2 - (intOf i).toNat)
  case atStart => exact ⟨0, by omega, rfl, rfl⟩
  case round =>
    obtain ⟨t, ht, rfl, rfl⟩ := hrel
    have ht3 : t = 0 ∨ t = 1 ∨ t = 2 := by omega
    clear ht
    rcases ht3 with rfl | rfl | rfl
    · rw [U0.out]
      by_cases a1 : lo < 0 <;> by_cases a2 : 55295 < hi
      all_goals
        go_wp2_with fail
        all_goals
          go_round
          case rel => exact ⟨1, by omega, rfl, by rw [U1.out, D1.out]; first | (rw [if_pos (by omega)]; refine congrArg _ ?_; omega) | (rw [if_neg (by omega)])⟩
          case measure => simp [intOf]
    · rw [U1.out]
      by_cases a1 : lo < 57344 <;> by_cases a2 : 1114111 < hi
      all_goals
        go_wp2_with fail
        all_goals
          go_round
          case rel => exact ⟨2, by omega, rfl, by rw [U2.out, D2.out]; first | (rw [if_pos (by omega)]; refine congrArg _ ?_; omega) | (rw [if_neg (by omega), Int.add_zero])⟩
          case measure => simp [intOf]
    · go_wp2_with fail
      go_ret
      exact ⟨rfl, HB1.out⟩
end Go.Proofs.Ytmpjhbbcfnffhaa
