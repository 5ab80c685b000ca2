/-
  The program's sets: what is asked of them; of a nil set; the statement LiveNil.
-/
import Derived.Test.YtoppgecajibelaaTg
namespace Go.Proofs.Ytoppgecajibelaa
open Go.RowKit
set_option maxRecDepth 100000 in
theorem count_none (w : World) : Calls Try.prog 14 #[.pointer none] w fun e w' => e = .returned (.tuple #[.int .i64 0, .int .i64 0]) ∧ w' = w := by
  go_enter Try.func14, Try.ntmps14
  go_wp2_with fail
  go_ret2
  exact ⟨rfl, rfl⟩
set_option maxRecDepth 100000 in
theorem copy_none (w : World) : Calls Try.prog 10 #[.pointer none] w fun e w' => e = .returned (.pointer none) ∧ w' = w := by
  go_enter Try.func10, Try.ntmps10
  go_wp2_with fail
  go_ret
  exact ⟨rfl, rfl⟩
set_option maxRecDepth 100000 in
theorem pack_none (w : World) : Calls Try.prog 17 #[.pointer none] w fun e w' => e = .returned (.string ⟨#[]⟩) ∧ w' = w := by
  go_enter Try.func17, Try.ntmps17
  go_wp2_with fail
  go_ret
  exact ⟨rfl, rfl⟩
set_option maxRecDepth 100000 in
theorem live_none (w : World) (x : Int) : Calls Try.prog 15 #[.pointer none, .int .i64 x] w fun e w' => e = .returned (.bool false) ∧ w' = w := by
  go_enter Try.func15, Try.ntmps15
  go_wp2_with fail
  go_ret
  exact ⟨rfl, rfl⟩
set_option maxRecDepth 100000 in
theorem kill_none (w : World) (x : Int) : Calls Try.prog 12 #[.pointer none, .int .i64 x] w fun e w' => e = .returned (.bool false) ∧ w' = w := by
  have H := Lib.hid (live_none w x)
  go_enter Try.func12, Try.ntmps12
  go_wp2_with (go_at_call 15; refine H.out.mono ?_; rintro e1 w1 ⟨rfl, rfl⟩; clear H)
  go_ret
  exact ⟨rfl, rfl⟩
set_option maxRecDepth 100000 in
set_option maxHeartbeats 4000000 in
theorem awake15_any (w : World) : Calls Try.prog 7 #[] w fun e w' => e = .returned (.bool true) ∧ Below w.heap.size w w' := by
  have HN : Hid (∀ W, Calls Try.prog 8 #[.int .i64 10] W fun e w' => ∃ p v, e = .returned (.tuple #[.pointer (some ⟨p, 0, none⟩), .int .i64 0]) ∧ SetS w' W.heap.size p 10 [] v ∧ Below W.heap.size W w') := fun W => by
    refine (newP_any W 10).mono ?_
    rintro e w' ⟨hb, (⟨q, _⟩ | ⟨q, _⟩ | ⟨n, p, v, q1, q2, q3, q4⟩)⟩
    · omega
    · omega
    · obtain rfl : n = 10 := by omega
      exact ⟨p, v, q3, q4, hb⟩
  have K1 : Hid (∀ W p v, SetS W w.heap.size p 10 [] v → Calls Try.prog 12 #[.pointer (some ⟨p, 0, none⟩), .int .i64 9] W fun e w' => e = .returned (.bool true) ∧ SetS w' w.heap.size p 10 [9] v ∧ Below w.heap.size W w') := fun W p v h => by
    refine (killP_any W _ p 10 [] v h 9).mono ?_
    rintro e w' ⟨q1, q2, q3, _⟩
    exact ⟨q1, q3, q2⟩
  have K2 : Hid (∀ W p v, SetS W w.heap.size p 10 [9] v → Calls Try.prog 12 #[.pointer (some ⟨p, 0, none⟩), .int .i64 9] W fun e w' => e = .returned (.bool false) ∧ SetS w' w.heap.size p 10 [9] v ∧ Below w.heap.size W w') := fun W p v h => by
    refine (killP_any W _ p 10 [9] v h 9).mono ?_
    rintro e w' ⟨q1, q2, q3, _⟩
    exact ⟨q1, q3, q2⟩
  have HC : Hid (∀ W p v, SetS W w.heap.size p 10 [9] v → Calls Try.prog 14 #[.pointer (some ⟨p, 0, none⟩)] W fun e w' => e = .returned (.tuple #[.int .i64 10, .int .i64 9]) ∧ Below W.heap.size W w') := fun W p v h => countS_any W _ p 10 [9] v h
  have L0 : Hid (∀ W p v, SetS W w.heap.size p 10 [9] v → Calls Try.prog 15 #[.pointer (some ⟨p, 0, none⟩), .int .i64 0] W fun e w' => e = .returned (.bool true) ∧ w' = W) := fun W p v h => liveP_any W _ p 10 [9] v h 0
  have L9 : Hid (∀ W p v, SetS W w.heap.size p 10 [9] v → Calls Try.prog 15 #[.pointer (some ⟨p, 0, none⟩), .int .i64 9] W fun e w' => e = .returned (.bool false) ∧ w' = W) := fun W p v h => liveP_any W _ p 10 [9] v h 9
  have hpk : Ls.pack 10 [9] = [138, 0, 2] := by decide +kernel
  have HP : Hid (∀ W p v, SetS W w.heap.size p 10 [9] v → Calls Try.prog 17 #[.pointer (some ⟨p, 0, none⟩)] W fun e w' => e = .returned (.string ⟨#[138, 0, 2]⟩) ∧ Below W.heap.size W w') := fun W p v h => by
    have h1 := packP_any W _ p 10 [9] v h
    unfold StrPost at h1
    rw [hpk] at h1
    exact h1
  clear hpk
  go_enter Try.func7, Try.ntmps7
  go_wp2_with (first
    | (go_at_call 8; refine (HN.out w).mono ?_; rintro e1 w1 ⟨p, v, rfl, hs1, hb1⟩; have HS1 := Lib.hid hs1; have HB1 := Lib.hid hb1; clear hs1 hb1 HN)
    | (go_at_call 12; refine (K2.out w2 p v HS2.out).mono ?_; rintro e1 w3 ⟨rfl, hs3, hb3⟩; have HS3 := Lib.hid hs3; have HB3 := Lib.hid (HB2.out.trans hb3); clear hs3 hb3 K2)
    | (go_at_call 12; refine (K1.out w1 p v HS1.out).mono ?_; rintro e1 w2 ⟨rfl, hs2, hb2⟩; have HS2 := Lib.hid hs2; have HB2 := Lib.hid (HB1.out.trans hb2); clear hs2 hb2 K1)
    | (go_at_call 14; refine (HC.out w3 p v HS3.out).mono ?_; rintro e1 w4 ⟨rfl, hb4⟩; have HS4 := Lib.hid (HS3.out.below hb4); have HB4 := Lib.hid (HB3.out.trans (hb4.mono HB3.out.size)); clear hb4 HC)
    | (go_at_call 17; refine (HP.out _ p v HS4.out).mono ?_; rintro e1 w7 ⟨rfl, hb7⟩; have HB7 := Lib.hid (HB4.out.trans (hb7.mono HB4.out.size)); clear hb7 HP)
    | (go_at_call 15; refine (L0.out w4 p v HS4.out).mono ?_; rintro e1 w5 ⟨rfl, rfl⟩; clear L0)
    | (go_at_call 15; refine (L9.out _ p v HS4.out).mono ?_; rintro e1 w6 ⟨rfl, rfl⟩; clear L9))
  go_ret
  exact ⟨rfl, HB7.out⟩
end Go.Proofs.Ytoppgecajibelaa
