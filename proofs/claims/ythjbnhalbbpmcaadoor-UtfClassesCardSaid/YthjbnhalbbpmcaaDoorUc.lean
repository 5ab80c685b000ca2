/-
  What every number is: the walk of the statement.
-/
import Derived.Test.YthjbnhalbbpmcaaDoorUa
import Derived.Test.YthjbnhalbbpmcaaDoorUr
namespace Go.Proofs.YthjbnhalbbpmcaaDoor
open Go.RowKit

set_option maxRecDepth 100000 in
set_option maxHeartbeats 1000000 in
theorem classes_walk (c : Int) (w : World) (hT : Tabs w) :
    Calls Tryd.prog 5 #[.int .i64 c] w fun e w' => e = .returned (.bool true) ∧ Below w.heap.size w w' := by
  have h0 := Lib.hid (awake_any w hT)
  have h1 := Lib.hid (fun W => whole_any c W)
  have h2 := Lib.hid (fun W => wholeR_any c W)
  have h3 := Lib.hid (fun W => letter_any c W)
  have h4 := Lib.hid (fun W => letterR_any c W)
  have h5 := Lib.hid (fun W => fold_any c W)
  have h6 := Lib.hid (fun W => foldR_any c W)
  generalize Ut.whole c = b1 at *
  generalize Ut.letter c = b2 at *
  generalize Ut.fold c = d at *
  have e1 : (b1 == b1) = true := by simp
  have e2 : (b2 == b2) = true := by simp
  clear hT
  go_enter Tryd.func5, Tryd.ntmps5
  go_wp2_with fail
  refine h0.out.mono ?_
  rintro e w1 ⟨rfl, hb⟩
  have HB1 := Lib.hid hb
  clear hb
  go_wp2_with fail
  refine (h1.out w1).mono ?_
  rintro e w2 ⟨rfl, rfl⟩
  go_wp2_with fail
  refine (h2.out w1).mono ?_
  rintro e w2 ⟨rfl, rfl⟩
  go_wp2_with fail
  refine (h3.out w1).mono ?_
  rintro e w2 ⟨rfl, rfl⟩
  go_wp2_with fail
  refine (h4.out w1).mono ?_
  rintro e w2 ⟨rfl, hb⟩
  have HB2 : Hid (Below w.heap.size w w2) := HB1.out.trans (hb.mono HB1.out.size)
  clear hb
  go_wp2_with fail
  refine (h5.out w2).mono ?_
  rintro e w3 ⟨rfl, rfl⟩
  go_wp2_with fail
  refine (h6.out w2).mono ?_
  rintro e w3 ⟨rfl, hb⟩
  have HB3 : Hid (Below w.heap.size w w3) := HB2.out.trans (hb.mono HB2.out.size)
  clear hb
  go_wp2_with fail
  go_ret
  exact ⟨rfl, HB3.out⟩

/-- Encode of one number. -/
theorem encode_one (c : Int) (W : World) (S : ByteArray) (f : Int) (h1 : Ut.encS [c] = S.data.toList) (h2 : Ut.encE [c] = f) : Calls Tryd.prog 9 #[.slice (some ⟨W.heap.size, 0, none⟩) 1 1] (W.alloc (.cells #[.int .i64 c] 3)) fun e' w' => e' = .returned (.tuple #[.string S, .int .i64 f]) ∧ Below W.heap.size W w' := by
  have h := encode_any _ _ [c] (ints_lit W [c] (by simp)) (by simp)
  refine h.mono fun e' w' ⟨h3, h4⟩ => ⟨?_, ((Below.refl _ _).alloc (Nat.le_refl _) _).trans (h4.mono (by simp))⟩
  rw [h3, h1, h2, ← mk_of rfl]
theorem Ut.encS_one (c : Int) (h : Ut.whole c = true) : Ut.encS [c] = Lib.encodeRune c ∧ Ut.encE [c] = 0 := by
  have : Ut.allW [c] = true := by simp [Ut.allW, h]
  exact ⟨(Ut.encS_yes this).trans (by simp [Ut.enc]), Ut.encE_yes this⟩
theorem Ut.encE_one (c : Int) (h : Ut.whole c = false) : Ut.encE [c] = 1 := Ut.encE_no (by simp [Ut.allW, h])

set_option maxRecDepth 100000 in
set_option maxHeartbeats 1000000 in
theorem folds_walk (c : Int) (w : World) (hT : Tabs w) :
    Calls Tryd.prog 7 #[.int .i64 c] w fun e w' => e = .returned (.bool true) ∧ Below w.heap.size w w' := by
  have h0 := Lib.hid (fun W hb => awake_any W (hT.below hb))
  have h1 := Lib.hid (fun W => fold_any c W)
  have h2 := Lib.hid (fun W => fold_any (Ut.fold c) W)
  rw [Ut.fold_fold] at h2
  obtain ⟨S, hS⟩ : ∃ S : ByteArray, Ut.encS [c] = S.data.toList := ⟨⟨(Ut.encS [c]).toArray⟩, by simp⟩
  obtain ⟨T, hT'⟩ : ∃ S : ByteArray, Ut.encS [Ut.fold c] = S.data.toList := ⟨⟨(Ut.encS [Ut.fold c]).toArray⟩, by simp⟩
  obtain ⟨f1, hf1⟩ : ∃ f, Ut.encE [c] = f := ⟨_, rfl⟩
  obtain ⟨f2, hf2⟩ : ∃ f, Ut.encE [Ut.fold c] = f := ⟨_, rfl⟩
  have h3 := Lib.hid (fun W => encode_one c W S f1 hS hf1)
  have h4 := Lib.hid (fun W => encode_one (Ut.fold c) W T f2 hT' hf2)
  have h5 := Lib.hid (fun W => whole_any c W)
  have h6 := Lib.hid (fun W => letter_any c W)
  have h7 := Lib.hid (fun W => letter_any (Ut.fold c) W)
  have hlen := Ut.fold_len c
  have hwf := Ut.whole_fold c
  have hlw := Ut.letter_whole c
  have hsz : Ut.whole c = true → (¬ (S.size : Int) < (T.size : Int)) ∧ f1 = 0 ∧ f2 = 0 := by
    intro h
    obtain ⟨a1, a2⟩ := Ut.encS_one c h
    obtain ⟨a3, a4⟩ := Ut.encS_one _ (hwf h)
    rw [hS] at a1
    rw [hT'] at a3
    have b1 := congrArg List.length a1
    have b3 := congrArg List.length a3
    rw [Array.length_toList] at b1 b3
    change S.size = _ at b1
    change T.size = _ at b3
    exact ⟨by omega, by omega, by omega⟩
  have hno : Ut.whole c = false → f1 = 1 := fun h => by rw [← hf1]; exact Ut.encE_one c h
  clear hS hT' hlen hT hf1 hf2
  generalize Ut.fold c = d at *
  cases hw : Ut.whole c
  · have hl : Ut.letter c = false := by
      rw [← Bool.not_eq_true]
      intro h
      rw [(hlw h).1] at hw
      cases hw
    rw [hw] at h5
    rw [hl] at h6
    have hf := hno hw
    subst hf
    clear hwf hlw hsz hl hw hno
    go_enter Tryd.func7, Tryd.ntmps7
    go_wp2_with fail
    refine (h1.out w).mono ?_
    rintro e w1 ⟨rfl, rfl⟩
    go_wp2_with fail
    refine (h0.out w (Below.refl _ _)).mono ?_
    rintro e w1 ⟨rfl, hb⟩
    have HB1 := Lib.hid hb
    clear hb
    go_wp2_with fail
    refine (h2.out w1).mono ?_
    rintro e w2 ⟨rfl, rfl⟩
    go_wp2_with fail
    refine (h3.out w1).mono ?_
    rintro e w2 ⟨rfl, hb⟩
    have HB2 : Hid (Below w.heap.size w w2) := HB1.out.trans (hb.mono HB1.out.size)
    clear hb
    go_wp2_with fail
    refine (h4.out w2).mono ?_
    rintro e w3 ⟨rfl, hb⟩
    have HB3 : Hid (Below w.heap.size w w3) := HB2.out.trans (hb.mono HB2.out.size)
    clear hb
    go_wp2_with fail
    refine (h5.out w3).mono ?_
    rintro e w4 ⟨rfl, rfl⟩
    go_wp2_with fail
    refine (h6.out w3).mono ?_
    rintro e w4 ⟨rfl, rfl⟩
    go_wp2_with fail
    go_ret
    exact ⟨rfl, HB3.out⟩
  · obtain ⟨hsz3, rfl, rfl⟩ := hsz hw
    rw [hw] at h5
    have hll : Ut.letter c = true → Ut.letter d = true := fun h => (hlw h).2
    clear hwf hlw hsz hw hno
    generalize Ut.letter d = l2 at *
    cases hl : Ut.letter c
    · rw [hl] at h6
      clear hll hl
      go_enter Tryd.func7, Tryd.ntmps7
      go_wp2_with fail
      refine (h1.out w).mono ?_
      rintro e w1 ⟨rfl, rfl⟩
      go_wp2_with fail
      refine (h0.out w (Below.refl _ _)).mono ?_
      rintro e w1 ⟨rfl, hb⟩
      have HB1 := Lib.hid hb
      clear hb
      go_wp2_with fail
      refine (h2.out w1).mono ?_
      rintro e w2 ⟨rfl, rfl⟩
      go_wp2_with fail
      refine (h3.out w1).mono ?_
      rintro e w2 ⟨rfl, hb⟩
      have HB2 : Hid (Below w.heap.size w w2) := HB1.out.trans (hb.mono HB1.out.size)
      clear hb
      go_wp2_with fail
      refine (h4.out w2).mono ?_
      rintro e w3 ⟨rfl, hb⟩
      have HB3 : Hid (Below w.heap.size w w3) := HB2.out.trans (hb.mono HB2.out.size)
      clear hb
      go_wp2_with fail
      refine (h5.out w3).mono ?_
      rintro e w4 ⟨rfl, rfl⟩
      go_wp2_with fail
      refine (h6.out w3).mono ?_
      rintro e w4 ⟨rfl, rfl⟩
      go_wp2_with fail
      go_ret
      exact ⟨rfl, HB3.out⟩
    · rw [hl] at h6
      have hl2 := hll hl
      subst hl2
      clear hll hl
      go_enter Tryd.func7, Tryd.ntmps7
      go_wp2_with fail
      refine (h1.out w).mono ?_
      rintro e w1 ⟨rfl, rfl⟩
      go_wp2_with fail
      refine (h0.out w (Below.refl _ _)).mono ?_
      rintro e w1 ⟨rfl, hb⟩
      have HB1 := Lib.hid hb
      clear hb
      go_wp2_with fail
      refine (h2.out w1).mono ?_
      rintro e w2 ⟨rfl, rfl⟩
      go_wp2_with fail
      refine (h3.out w1).mono ?_
      rintro e w2 ⟨rfl, hb⟩
      have HB2 : Hid (Below w.heap.size w w2) := HB1.out.trans (hb.mono HB1.out.size)
      clear hb
      go_wp2_with fail
      refine (h4.out w2).mono ?_
      rintro e w3 ⟨rfl, hb⟩
      have HB3 : Hid (Below w.heap.size w w3) := HB2.out.trans (hb.mono HB2.out.size)
      clear hb
      go_wp2_with fail
      refine (h5.out w3).mono ?_
      rintro e w4 ⟨rfl, rfl⟩
      go_wp2_with fail
      refine (h6.out w3).mono ?_
      rintro e w4 ⟨rfl, rfl⟩
      go_wp2_with fail
      refine (h5.out w3).mono ?_
      rintro e w4 ⟨rfl, rfl⟩
      go_wp2_with fail
      refine (h7.out w3).mono ?_
      rintro e w4 ⟨rfl, rfl⟩
      go_wp2_with fail
      go_ret
      exact ⟨rfl, HB3.out⟩
end Go.Proofs.YthjbnhalbbpmcaaDoor
