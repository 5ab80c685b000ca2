/-
  What the calls of a nil disk answer (made by gen_xln.py).
-/
import Derived.Test.YtdohenbicepicaaWs
namespace Go.Proofs.Ytdohenbicepicaa
open Go.RowKit Go.Maps

set_option maxHeartbeats 1000000 in
theorem refusalN (w : World) (v : Value) : Calls Try.prog 41 #[.pointer none, v] w fun e w' => e = .returned (.int .i64 1) ∧ w = w' := by
  go_enter Try.func41, Try.ntmps41
  go_wp2_with fail
  go_ret
  exact ⟨rfl, rfl⟩
set_option maxHeartbeats 1000000 in
theorem findN (w : World) (s : ByteArray) : Calls Try.prog 53 #[.pointer none, .string s] w fun e w' => e = .returned (.tuple #[.pointer none, .int .i64 1]) ∧ Below w.heap.size w w' := by
  have hR := Lib.hid (refusalN)
  go_enter Try.func53, Try.ntmps53
  go_wp2_with (go_at_call 41; refine (hR.out _ _).mono ?_; rintro e1 w1 ⟨rfl, rfl⟩)
  go_ret2
  exact ⟨rfl, (Below.refl _ _).alloc (Nat.le_refl _) _⟩
theorem readN (w : World) (s : ByteArray) : Calls Try.prog 19 #[.pointer none, .string s] w fun e w' => e = .returned (.tuple #[.string ⟨#[]⟩, .int .i64 1]) ∧ Below w.heap.size w w' := by
  have hF := Lib.hid (findN w s)
  go_enter Try.func19, Try.ntmps19
  go_wp2_with (go_at_call 53; refine hF.out.mono ?_; rintro e1 w1 ⟨rfl, h1⟩; have H1 := Lib.hid h1; clear h1)
  go_ret2
  exact ⟨rfl, H1.out⟩
set_option maxHeartbeats 1000000 in
theorem changeFileN (w : World) (s : ByteArray) (g : Nat) (cs : Array Value) : Calls Try.prog 44 #[.pointer none, .string s, .func (.func g) #[] cs] w fun e w' => e = .returned (.int .i64 1) ∧ Below w.heap.size w w' := by
  have hF : Hid (∀ w, Calls Try.prog 53 #[.pointer none, .string s] w fun e w' => e = .returned (.tuple #[.pointer none, .int .i64 1]) ∧ Below w.heap.size w w') := fun w => findN w s
  have hB : Hid (Below w.heap.size w (w.alloc (.cells #[.func (.func g) #[] cs] 75))) := (Below.refl _ _).alloc (Nat.le_refl _) _
  go_enter Try.func44, Try.ntmps44
  go_wp2_with (go_at_call 53; refine (hF.out _).mono ?_; rintro e1 w1 ⟨rfl, h1⟩; have H1 := Lib.hid (hB.out.trans (h1.mono (by simp))); clear h1)
  go_ret
  exact ⟨rfl, H1.out.alloc H1.out.size _⟩
set_option maxHeartbeats 1000000 in
theorem createN (w : World) (s : ByteArray) : Calls Try.prog 13 #[.pointer none, .string s] w fun e w' => e = .returned (.int .i64 1) ∧ Below w.heap.size w w' := by
  have hR := Lib.hid refusalN
  go_enter Try.func13, Try.ntmps13
  go_wp2_with (go_at_call 41; refine (hR.out _ _).mono ?_; rintro e1 w1 ⟨rfl, rfl⟩)
  go_ret
  exact ⟨rfl, (((Below.refl _ _).alloc (Nat.le_refl _) _).alloc (by simp) _).alloc (by simp; omega) _⟩
set_option maxHeartbeats 1000000 in
theorem syncDirN (w : World) : Calls Try.prog 16 #[.pointer none] w fun e w' => e = .returned (.int .i64 1) ∧ Below w.heap.size w w' := by
  have hR := Lib.hid refusalN
  go_enter Try.func16, Try.ntmps16
  go_wp2_with (go_at_call 41; refine (hR.out _ _).mono ?_; rintro e1 w1 ⟨rfl, rfl⟩)
  go_ret
  exact ⟨rfl, (Below.refl _ _).alloc (Nat.le_refl _) _⟩
set_option maxHeartbeats 1000000 in
theorem appendN (w : World) (s t : ByteArray) : Calls Try.prog 14 #[.pointer none, .string s, .string t] w fun e w' => e = .returned (.int .i64 1) ∧ Below w.heap.size w w' := by
  have hC := Lib.hid changeFileN
  go_enter Try.func14, Try.ntmps14
  go_wp2_with (go_at_call 44; refine (hC.out _ _ _ _).mono ?_; rintro e1 w1 ⟨rfl, h1⟩; have H1 := Lib.hid h1; clear h1)
  go_ret
  exact ⟨rfl, ((Below.refl _ _).alloc (Nat.le_refl _) _).trans (H1.out.mono (by simp))⟩
set_option maxHeartbeats 1000000 in
theorem syncN (w : World) (s : ByteArray) : Calls Try.prog 15 #[.pointer none, .string s] w fun e w' => e = .returned (.int .i64 1) ∧ Below w.heap.size w w' := by
  have hC := Lib.hid changeFileN
  go_enter Try.func15, Try.ntmps15
  go_wp2_with (go_at_call 44; refine (hC.out _ _ _ _).mono ?_; rintro e1 w1 ⟨rfl, h1⟩; have H1 := Lib.hid h1; clear h1)
  go_ret
  exact ⟨rfl, H1.out⟩
set_option maxHeartbeats 1000000 in
theorem removeN (w : World) (s : ByteArray) : Calls Try.prog 24 #[.pointer none, .string s] w fun e w' => e = .returned (.int .i64 1) ∧ Below w.heap.size w w' := by
  have hC := Lib.hid changeFileN
  go_enter Try.func24, Try.ntmps24
  go_wp2_with (go_at_call 44; refine (hC.out _ _ _ _).mono ?_; rintro e1 w1 ⟨rfl, h1⟩; have H1 := Lib.hid h1; clear h1)
  go_ret
  exact ⟨rfl, (((Below.refl _ _).alloc (Nat.le_refl _) _).alloc (by simp) _).trans (H1.out.mono (by simp; omega))⟩
set_option maxHeartbeats 1000000 in
theorem listN (w : World) : Calls Try.prog 22 #[.pointer none] w fun e w' => e = .returned (.slice none 0 0) ∧ Below w.heap.size w w' := by
  have hR := Lib.hid refusalN
  go_enter Try.func22, Try.ntmps22
  go_wp2_with (go_at_call 41; refine (hR.out _ _).mono ?_; rintro e1 w1 ⟨rfl, rfl⟩)
  go_ret
  exact ⟨rfl, Below.refl _ _⟩
set_option maxHeartbeats 1000000 in
theorem stepsN (w : World) : Calls Try.prog 25 #[.pointer none] w fun e w' => e = .returned (.int .i64 0) ∧ Below w.heap.size w w' := by
  go_enter Try.func25, Try.ntmps25
  go_wp2_with fail
  go_ret
  exact ⟨rfl, Below.refl _ _⟩
set_option maxHeartbeats 1000000 in
theorem downN (w : World) : Calls Try.prog 21 #[.pointer none] w fun e w' => e = .returned (.bool false) ∧ Below w.heap.size w w' := by
  go_enter Try.func21, Try.ntmps21
  go_wp2_with fail
  go_ret
  exact ⟨rfl, Below.refl _ _⟩
set_option maxHeartbeats 1000000 in
theorem restartN (w : World) (n : Int) : Calls Try.prog 18 #[.pointer none, .int .i64 n] w fun e w' => e = .returned (.int .i64 1) ∧ Below w.heap.size w w' := by
  go_enter Try.func18, Try.ntmps18
  go_wp2_with fail
  go_ret
  exact ⟨rfl, Below.refl _ _⟩
set_option maxHeartbeats 1000000 in
theorem armN (w : World) (n e1 : Int) : Calls Try.prog 20 #[.pointer none, .int .i64 n, .int .i64 e1] w fun e w' => e = .returned (.int .i64 1) ∧ Below w.heap.size w w' := by
  go_enter Try.func20, Try.ntmps20
  go_wp2_with fail
  go_ret
  exact ⟨rfl, Below.refl _ _⟩
set_option maxHeartbeats 1000000 in
theorem renameN (w : World) (s t : ByteArray) (ht : t.size ≤ 9223372036854775807) : Calls Try.prog 17 #[.pointer none, .string s, .string t] w fun e w' => e = .returned (.int .i64 1) ∧ Below w.heap.size w w' := by
  have hC := Lib.hid changeFileN
  have hN : Hid (∀ w, Calls Try.prog 37 #[.string t] w fun e' w' => e' = .returned (.bool (Vf.okN t)) ∧ w = w') := fun w => nameP_any w t ht
  clear ht
  generalize Vf.okN t = ok at *
  cases ok
  · go_enter Try.func17, Try.ntmps17
    go_wp2_with (go_at_call 37; refine (hN.out _).mono ?_; rintro e1 w1 ⟨rfl, rfl⟩)
    go_ret
    exact ⟨rfl, (((Below.refl _ _).alloc (Nat.le_refl _) _).alloc (by simp) _).alloc (by simp; omega) _⟩
  · go_enter Try.func17, Try.ntmps17
    go_wp2_with (first | (go_at_call 37; refine (hN.out _).mono ?_; rintro e1 w1 ⟨rfl, rfl⟩) | (go_at_call 44; refine (hC.out _ _ _ _).mono ?_; rintro e1 w1 ⟨rfl, h1⟩; have H1 := Lib.hid h1; clear h1))
    go_ret
    exact ⟨rfl, ((((Below.refl _ _).alloc (Nat.le_refl _) _).alloc (by simp) _).alloc (by simp; omega) _).trans (H1.out.mono (by simp; omega))⟩
end Go.Proofs.Ytdohenbicepicaa
