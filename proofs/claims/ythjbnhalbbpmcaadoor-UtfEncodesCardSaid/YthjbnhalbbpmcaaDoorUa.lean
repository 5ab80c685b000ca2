/-
  The fixed answers that each statement asks first.
-/
import Derived.Test.YthjbnhalbbpmcaaDoorUd
namespace Go.Proofs.YthjbnhalbbpmcaaDoor
open Go.RowKit

theorem awake_enc : Ut.encS [8364] = [226, 130, 172] ∧ Ut.encE [8364] = 0 := by decide +kernel
theorem awake_dec : Ut.decS [97, 195, 169] = [97, 233] ∧ Ut.decE [97, 195, 169] = 0 := by decide +kernel
theorem awake_fold : Ut.fold 65 = 97 := by decide +kernel
theorem awake_letter : Ut.letter 65 = true := by decide +kernel

set_option maxRecDepth 100000 in
set_option maxHeartbeats 1000000 in
theorem awake_any (w : World) (hT : Tabs w) : Calls Tryd.prog 11 #[] w fun e' w' => e' = .returned (.bool true) ∧ Below w.heap.size w w' := by
  have h1 : Hid (Calls Tryd.prog 9 #[.slice (some ⟨w.heap.size, 0, none⟩) 1 1] (w.alloc (.cells #[.int .i64 8364] 3)) fun e' w' => e' = .returned (.tuple #[.string ⟨#[226, 130, 172]⟩, .int .i64 0]) ∧ Below w.heap.size w w') := by
    have h := encode_any _ _ [8364] (ints_lit w [8364] (by simp)) (by simp)
    refine h.mono fun e' w' ⟨h1, h2⟩ => ⟨?_, ((Below.refl _ _).alloc (Nat.le_refl _) _).trans (h2.mono (by simp))⟩
    rw [awake_enc.1, awake_enc.2] at h1
    exact h1
  have h2 : Hid (∀ w', Below w.heap.size w w' → Calls Tryd.prog 13 #[.string ⟨#[97, 195, 169]⟩] w' fun e' w2 => ∃ a cap, e' = .returned (.tuple #[.slice a 2 cap, .int .i64 0]) ∧ IntS w2 (.slice a 2 cap) [97, 233] ∧ Below w.heap.size w w2) := fun w' hb => by
    have h := decode_any w' ⟨#[97, 195, 169]⟩ (hT.below hb) (by decide)
    refine h.mono fun e' w2 ⟨v, h1, h3, h4⟩ => ?_
    rw [show (⟨#[97, 195, 169]⟩ : ByteArray).data.toList = [97, 195, 169] from rfl] at h1 h3
    rw [awake_dec.2] at h1
    rw [awake_dec.1] at h3
    have hi := h3.ints (by simp)
    obtain ⟨a, cap, rfl, _⟩ := ownI_cells h3
    exact ⟨a, cap, h1, hi, hb.trans (h4.mono hb.size)⟩
  have h3 : Hid (∀ (w' : World) v, Below w.heap.size w w' → IntS w' v [97, 233] → Calls Tryd.prog 12 #[v, .slice (some ⟨w'.heap.size, 0, none⟩) 2 2] (w'.alloc (.cells #[.int .i64 97, .int .i64 233] 3)) fun e' w2 => e' = .returned (.bool true) ∧ Below w.heap.size w w2) := fun w' v hbw hv => by
    have hb : Below w'.heap.size w' (w'.alloc (.cells #[.int .i64 97, .int .i64 233] 3)) := (Below.refl _ _).alloc (Nat.le_refl _) _
    have h := numbers_any _ _ _ [97, 233] [97, 233] (hv.below hb (Nat.le_refl _)) (ints_lit w' [97, 233] (by simp)) (by simp) (by simp)
    rw [show decide (([97, 233] : List Int) = [97, 233]) = true from by decide] at h
    exact h.mono fun e' w2 ⟨h1, h2⟩ => ⟨h1, hbw.trans ((hb.trans (h2.mono (by simp))).mono hbw.size)⟩
  have h4 := Lib.hid (fun W => fold_any 65 W)
  have h5 := Lib.hid (fun W => letter_any 65 W)
  rw [awake_fold] at h4
  rw [awake_letter] at h5
  clear hT
  go_enter Tryd.func11, Tryd.ntmps11
  go_wp2_with fail
  refine h1.out.mono ?_
  rintro e1 w1 ⟨rfl, hb1⟩
  have HB1 := Lib.hid hb1
  clear hb1 h1
  go_wp2_with fail
  refine (h2.out w1 HB1.out).mono ?_
  rintro e1 w2 ⟨a, cap, rfl, hi2, hb2⟩
  have HI2 := Lib.hid hi2
  have HB2 := Lib.hid hb2
  clear hi2 hb2 h2 HB1
  go_wp2_with fail
  refine (h3.out w2 _ HB2.out HI2.out).mono ?_
  rintro e1 w3 ⟨rfl, hb3⟩
  have HB3 := Lib.hid hb3
  clear hb3 h3
  go_wp2_with fail
  refine (h4.out w3).mono ?_
  rintro e1 w4 ⟨rfl, rfl⟩
  go_wp2_with fail
  refine (h5.out w3).mono ?_
  rintro e1 w4 ⟨rfl, rfl⟩
  go_wp2_with fail
  go_ret
  exact ⟨rfl, HB3.out⟩
end Go.Proofs.YthjbnhalbbpmcaaDoor
