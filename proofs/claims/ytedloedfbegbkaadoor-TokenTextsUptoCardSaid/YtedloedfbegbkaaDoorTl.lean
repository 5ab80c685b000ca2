/-
  How many letters stand ahead; characters, each folded, in new memory.
-/
import Derived.Test.YtedloedfbegbkaaDoorTk
import Derived.Test.YtedloedfbegbkaaDoorUd
namespace Go.Proofs.YtedloedfbegbkaaDoor
open Go.RowKit

namespace Ut
theorem ahead_step (l : List Int) (k : Nat) (h : k < l.length) : ahead (l.drop k) = if letter l[k] = true then ahead (l.drop (k + 1)) + 1 else 0 := by
  rw [List.drop_eq_getElem_cons h]
  unfold ahead
  generalize l.drop (k + 1) = r
  generalize l[k] = c
  cases hl : letter c
  · simp [hl]
  · simp [hl]
theorem ahead_nil (l : List Int) (k : Nat) (h : l.length ≤ k) : ahead (l.drop k) = 0 := by
  rw [List.drop_of_length_le h]
  rfl
/-- The first so many are folded. -/
def fFold (xs : List Int) (k : Nat) : Nat → Value := fun j => .int .i64 (if j < k then fold (xs.getD j 0) else 0)
theorem fFold_step (xs : List Int) (k : Nat) (hk : k < xs.length) (j : Nat) : (if j = k then Value.int .i64 (fold xs[k]) else fFold xs k j) = fFold xs (k + 1) j := by
  unfold fFold
  by_cases e : j = k
  · subst e
    rw [if_pos rfl, if_pos (by omega), List.getD_eq_getElem?_getD, List.getElem?_eq_getElem hk]
    rfl
  · rw [if_neg e]
    by_cases h : j < k
    · rw [if_pos h, if_pos (by omega)]
    · rw [if_neg h, if_neg (by omega)]
end Ut

set_option maxRecDepth 100000 in
set_option maxHeartbeats 1000000 in
theorem ahead_any (w : World) (v : Value) (xs : List Int) (hv : IntS w v xs) :
    Calls Tryd.prog 17 #[v] w fun e w' => e = .returned (.int .i64 (Ut.ahead xs : Int)) ∧ w = w' := by
  obtain ⟨a, cap, rfl, hx, hx', hv⟩ := hv
  have hx2 : xs.length ≤ 9223372036854775807 := by omega
  have HV := Lib.hid hv
  clear hv hx hx'
  obtain ⟨n, hn⟩ : ∃ n, n = xs.length := ⟨_, rfl⟩
  have HN := Lib.hid hn
  rw [← hn] at hx2 ⊢
  clear hn
  go_enter Tryd.func17, Tryd.ntmps17
  go_wp2_with fail
  go_loopg [3] n (fun g i wx => ∃ k : Nat, w = wx ∧ k ≤ n ∧ g = n - k ∧ i = .int .i64 k ∧ Hid (Ut.ahead xs = k + Ut.ahead (xs.drop k)))
  case atStart => exact ⟨0, rfl, Nat.zero_le _, rfl, rfl, by show _ = _; rw [List.drop_zero, Nat.zero_add]⟩
  case round =>
    obtain ⟨k, rfl, hk, rfl, rfl, hf⟩ := hrel
    by_cases hkn : k < n
    · have i1 : (k : Int) < (n : Int) := by omega
      have kx : k < xs.length := by rw [← HN.out]; exact hkn
      obtain ⟨g, o, rfl, hg, hcu⟩ := HV.out (by omega)
      have c1 := hcu k kx
      have hst := Ut.ahead_step xs k kx
      have hL := Lib.hid (letter_any xs[k] w)
      generalize xs[k] = c at *
      clear hcu
      cases hl : Ut.letter c
      · rw [hl] at hL
        have hfin : Hid (Ut.ahead xs = k) := by show _ = _; rw [hf.out, hst, hl]; simp
        clear hf hst hl
        go_wp2_with fail
        refine hL.out.mono ?_
        rintro e w1 ⟨rfl, rfl⟩
        go_wp2_with fail
        go_ret
        exact ⟨by rw [hfin.out]; rfl, rfl⟩
      · rw [hl] at hL
        have hst2 : Hid (Ut.ahead xs = (k + 1) + Ut.ahead (xs.drop (k + 1))) := by show _ = _; rw [hf.out, hst, hl]; simp; omega
        clear hf hst hl
        go_wp2_with fail
        refine hL.out.mono ?_
        rintro e w1 ⟨rfl, rfl⟩
        go_wp2_with fail
        go_roundg (n - (k + 1))
        case rel => exact ⟨k + 1, rfl, by omega, rfl, by go_num, hst2⟩
        case measure => omega
    · have hfin : Hid (Ut.ahead xs = k) := by
        show _ = _
        rw [hf.out, Ut.ahead_nil xs k (by rw [← HN.out]; omega), Nat.add_zero]
      have i1 : ¬ (k : Int) < (n : Int) := by omega
      clear hf
      go_wp2_with fail
      go_ret
      exact ⟨by rw [hfin.out]; rfl, rfl⟩

set_option maxRecDepth 100000 in
set_option maxHeartbeats 1000000 in
theorem foldedOf_any (w : World) (v : Value) (xs : List Int) (hv : IntS w v xs) (hx : xs.length ≤ 17592186044416) :
    Calls Tryd.prog 23 #[v] w fun e w' => ∃ v', e = .returned v' ∧ OwnI w' w.heap.size v' (xs.map Ut.fold) ∧ Below w.heap.size w w' := by
  obtain ⟨a, cap, rfl, _, _, hv⟩ := hv
  have HV := Lib.hid hv
  clear hv
  obtain ⟨n, hn⟩ : ∃ n, n = xs.length := ⟨_, rfl⟩
  have HN := Lib.hid hn
  rw [← hn] at hx ⊢
  clear hn
  have hmk := run_make_row' (P := Tryd.prog) 32 3 (.int .i64 0) 8 Tryd.underlying32 Tryd.infoI rfl .i64 .i64 n (by omega) (by omega)
  go_enter Tryd.func23, Tryd.ntmps23
  go_wp2_with fail
  have HR : Hid ((w.alloc (.cells (madeCells #[.int .i64 0] n) 3)).rowIs w.heap.size 3 n (Ut.fFold xs 0)) := World.rowIs_made w (.int .i64 0) n 3
  have HB : Hid (Below w.heap.size w (w.alloc (.cells (madeCells #[.int .i64 0] n) 3))) := (Below.refl _ _).alloc (Nat.le_refl _) _
  generalize w.alloc (.cells (madeCells #[.int .i64 0] n) 3) = w1 at *
  clear hmk
  obtain ⟨B, hB⟩ : ∃ B, B = w.heap.size := ⟨_, rfl⟩
  have HBe := Lib.hid hB
  rw [← hB] at HR ⊢
  clear hB
  go_loopg [11] n (fun g i wx => ∃ k : Nat, k ≤ n ∧ g = n - k ∧ i = .int .i64 k ∧ Hid (wx.rowIs B 3 n (Ut.fFold xs k)) ∧ Below w.heap.size w wx)
  case atStart => exact ⟨0, Nat.zero_le _, rfl, rfl, HR.out, HB.out⟩
  case round =>
    obtain ⟨k, hk, rfl, rfl, hrow, hbel⟩ := hrel
    by_cases hkn : k < n
    · have i1 : (k : Int) < (n : Int) := by omega
      have kx : k < xs.length := by rw [← HN.out]; exact hkn
      obtain ⟨g, o, rfl, hg, hcu⟩ := HV.out (by omega)
      have c1 : wr.cell? ⟨g, o + k, none⟩ = some (.int .i64 xs[k]) := (hbel.cell (p := ⟨g, o + k, none⟩) hg).trans (hcu k kx)
      have c2 := hrow.out.cell hkn
      have f2 := hrow.out.frozen k
      have hF := Lib.hid (fold_any xs[k] wr)
      have hrow2 : Hid ((wr.setCell ⟨B, k, none⟩ (.int .i64 (Ut.fold xs[k]))).rowIs B 3 n (Ut.fFold xs (k + 1))) :=
        (hrow.out.set k _).congr fun j _ => Ut.fFold_step xs k kx j
      have hbel2 : Hid (Below w.heap.size w (wr.setCell ⟨B, k, none⟩ (.int .i64 (Ut.fold xs[k])))) := hbel.setCell (p := ⟨B, k, none⟩) (by show w.heap.size ≤ B; rw [HBe.out]; exact Nat.le_refl _) _
      generalize Ut.fold xs[k] = d at *
      generalize xs[k] = c at *
      clear hcu hrow hbel
      go_wp2_with fail
      refine hF.out.mono ?_
      rintro e w2 ⟨rfl, rfl⟩
      go_wp2_with fail
      go_roundg (n - (k + 1))
      case rel => exact ⟨k + 1, by omega, rfl, by go_num, hrow2, hbel2.out⟩
      case measure => omega
    · obtain rfl : k = n := by omega
      have i1 : ¬ (k : Int) < (k : Int) := by omega
      have hfin : Hid (OwnI wr w.heap.size (.slice (some ⟨B, 0, none⟩) k k) (xs.map Ut.fold)) := by
        obtain ⟨c, h1, h2, h3⟩ := hrow.out
        refine ⟨by simp [intsV], .inr ⟨B, k, c, by rw [List.length_map, ← HN.out], by rw [HBe.out]; exact Nat.le_refl _, h1, by rw [List.length_map, ← HN.out]; exact Nat.le_refl _, by unfold maxLen; omega, by omega, ?_⟩⟩
        rw [List.length_map, ← HN.out, Nat.mul_one, List.take_of_length_le (by rw [Array.length_toList, h2]; exact Nat.le_refl _)]
        apply List.ext_getElem?
        intro j
        by_cases hj : j < k
        · have hjx : j < xs.length := by rw [← HN.out]; exact hj
          rw [Array.getElem?_toList, h3 j hj]
          simp [intsV, Ut.fFold, hj, hjx]
        · rw [List.getElem?_eq_none (by rw [Array.length_toList, h2]; omega), List.getElem?_eq_none (by simp [intsV]; rw [← HN.out]; omega)]
      have HBE := Lib.hid hbel
      clear hrow hbel
      go_wp2_with fail
      go_ret
      exact ⟨_, rfl, hfin.out, HBE.out⟩
end Go.Proofs.YtedloedfbegbkaaDoor
