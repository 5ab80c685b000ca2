/-
  The small functions: which numbers are characters, which stand in words, what they are folded to; the program's and the document's own.
-/
import Derived.Test.YtmpjhbbcfnffhaaMm
import Derived.Test.YtmpjhbbcfnffhaaUt
namespace Go.Proofs.Ytmpjhbbcfnffhaa
open Go.RowKit

namespace Ut
/-- A number is in one of the ranges. -/
def among (c : Int) : List Int → Bool
  | a :: b :: r => decide (a ≤ c ∧ c ≤ b) || among c r
  | _ => false
/-- A number stands in words. -/
def letter (c : Int) : Bool := among c [97, 122, 65, 90, 48, 57, 192, 214, 216, 246, 248, 591, 880, 893, 895, 1153, 1155, 1327, 19968, 40959]
/-- What a number is folded to. -/
def fold (c : Int) : Int :=
  if among c [65, 90, 192, 214, 216, 222, 913, 929, 931, 937, 1040, 1071] = true then c + 32
  else if 1024 ≤ c ∧ c ≤ 1039 then c + 80 else if c = 962 then 963 else c
theorem fold_far (c : Int) (h : c < 0 ∨ 1071 < c) : fold c = c := by
  have hn : among c [65, 90, 192, 214, 216, 222, 913, 929, 931, 937, 1040, 1071] = false := by
    simp only [among, Bool.or_eq_false_iff, decide_eq_false_iff_not]
    refine ⟨?_, ?_, ?_, ?_, ?_, ?_, trivial⟩ <;> omega
  unfold fold
  rw [hn, if_neg Bool.false_ne_true, if_neg (by omega), if_neg (by omega)]
theorem fold_near : ∀ n : Fin 1072, ((n.val : Int) ≤ fold (n.val : Int) ∧ fold (n.val : Int) ≤ (n.val : Int) + 80) ∧ fold (fold (n.val : Int)) = fold (n.val : Int) ∧ (letter (n.val : Int) = true → letter (fold (n.val : Int)) = true) := by decide +kernel
theorem fold_all (c : Int) : (c ≤ fold c ∧ fold c ≤ c + 80) ∧ fold (fold c) = fold c ∧ (letter c = true → letter (fold c) = true) := by
  by_cases h : c < 0 ∨ 1071 < c
  · rw [fold_far c h, fold_far c h]
    exact ⟨by omega, rfl, id⟩
  · have := fold_near ⟨c.toNat, by omega⟩
    rw [show (((⟨c.toNat, by omega⟩ : Fin 1072).val : Nat) : Int) = c from by show ((c.toNat : Nat) : Int) = c; omega] at this
    exact this
theorem fold_bound (c : Int) : c ≤ fold c ∧ fold c ≤ c + 80 := (fold_all c).1
theorem fold_fold (c : Int) : fold (fold c) = fold c := (fold_all c).2.1
theorem whole_fold (c : Int) (h : whole c = true) : whole (fold c) = true := by
  by_cases hf : c < 0 ∨ 1071 < c
  · rw [fold_far c hf]; exact h
  · have := fold_bound c
    rw [whole_iff] at *
    omega
theorem letter_whole (c : Int) (h : letter c = true) : whole c = true ∧ letter (fold c) = true := by
  refine ⟨?_, (fold_all c).2.2 h⟩
  unfold letter at h
  simp only [among, Bool.or_eq_true, decide_eq_true_iff] at h
  rw [whole_iff]
  rcases h with h | h | h | h | h | h | h | h | h | h | h
  all_goals first | (cases h; done) | omega
theorem fold_len_near : ∀ n : Fin 1072, (Lib.encodeRune (fold (n.val : Int))).length ≤ (Lib.encodeRune (n.val : Int)).length := by decide +kernel
theorem fold_len (c : Int) : (Lib.encodeRune (fold c)).length ≤ (Lib.encodeRune c).length := by
  by_cases hf : c < 0 ∨ 1071 < c
  · rw [fold_far c hf]; exact Nat.le_refl _
  · have := fold_len_near ⟨c.toNat, by omega⟩
    rw [show (((⟨c.toNat, by omega⟩ : Fin 1072).val : Nat) : Int) = c from by show ((c.toNat : Nat) : Int) = c; omega] at this
    exact this
end Ut

theorem ret_bool {a b : Bool} (h : a = b) : Ending.returned (.bool a) = .returned (.bool b) := by rw [h]
theorem ret_i {k : IntKind} {a b : Int} (h : a = b) : Ending.returned (.int k a) = .returned (.int k b) := by rw [h]

set_option maxHeartbeats 400000 in
theorem within_any (c lo hi : Int) (w : World) :
    Calls Try.prog 28 #[.int .i64 c, .int .i64 lo, .int .i64 hi] w fun e w' => e = .returned (.bool (decide (lo ≤ c ∧ c ≤ hi))) ∧ w = w' := by
  by_cases h1 : lo ≤ c
  · by_cases h2 : c ≤ hi
    · have e : decide (lo ≤ c ∧ c ≤ hi) = true := decide_eq_true ⟨h1, h2⟩
      rw [e]
      go_enter Try.func28, Try.ntmps28
      go_wp2_with fail
      go_ret
      exact ⟨rfl, rfl⟩
    · have e : decide (lo ≤ c ∧ c ≤ hi) = false := decide_eq_false (fun h => h2 h.2)
      rw [e]
      go_enter Try.func28, Try.ntmps28
      go_wp2_with fail
      go_ret
      exact ⟨rfl, rfl⟩
  · have e : decide (lo ≤ c ∧ c ≤ hi) = false := decide_eq_false (fun h => h1 h.1)
    rw [e]
    go_enter Try.func28, Try.ntmps28
    go_wp2_with fail
    go_ret
    exact ⟨rfl, rfl⟩

set_option maxHeartbeats 1000000 in
theorem whole_any (c : Int) (w : World) :
    Calls Try.prog 26 #[.int .i64 c] w fun e w' => e = .returned (.bool (Ut.whole c)) ∧ w = w' := by
  have h1 := Lib.hid (within_any c 0 55295 w)
  have h2 := Lib.hid (within_any c 57344 1114111 w)
  have hw : Hid (Ut.whole c = (decide (0 ≤ c ∧ c ≤ 55295) || decide (57344 ≤ c ∧ c ≤ 1114111))) := by
    show _ = _
    rw [Bool.eq_iff_iff, Ut.whole_iff, Bool.or_eq_true, decide_eq_true_iff, decide_eq_true_iff]
    omega
  generalize decide (0 ≤ c ∧ c ≤ 55295) = a at *
  generalize decide (57344 ≤ c ∧ c ≤ 1114111) = b at *
  go_enter Try.func26, Try.ntmps26
  go_wp2_with fail
  refine h1.out.mono ?_
  rintro e w1 ⟨rfl, rfl⟩
  cases a
  · go_wp2_with fail
    refine h2.out.mono ?_
    rintro e w1 ⟨rfl, rfl⟩
    go_wp2_with fail
    go_ret
    exact ⟨by rw [hw.out]; rfl, rfl⟩
  · go_wp2_with fail
    go_ret
    exact ⟨by rw [hw.out]; rfl, rfl⟩

set_option maxHeartbeats 1000000 in
theorem wholeR_any (c : Int) (w : World) :
    Calls Try.prog 10 #[.int .i64 c] w fun e w' => e = .returned (.bool (Ut.whole c)) ∧ w = w' := by
  have hw : ∀ b, (Ut.whole c = b) → Hid (Ut.whole c = b) := fun _ h => h
  by_cases h1 : 0 ≤ c
  · by_cases h2 : c < 55296
    · have hb := hw true (Ut.whole_iff.2 (by omega))
      go_enter Try.func10, Try.ntmps10
      go_wp2_with fail
      go_ret
      exact ⟨by rw [hb.out]; rfl, rfl⟩
    · by_cases h3 : 57343 < c
      · by_cases h4 : c < 1114112
        · have hb := hw true (Ut.whole_iff.2 (by omega))
          go_enter Try.func10, Try.ntmps10
          go_wp2_with fail
          go_ret
          exact ⟨by rw [hb.out]; rfl, rfl⟩
        · have hb := hw false (by rw [← Bool.not_eq_true, Ut.whole_iff]; omega)
          go_enter Try.func10, Try.ntmps10
          go_wp2_with fail
          go_ret
          exact ⟨by rw [hb.out]; rfl, rfl⟩
      · have hb := hw false (by rw [← Bool.not_eq_true, Ut.whole_iff]; omega)
        go_enter Try.func10, Try.ntmps10
        go_wp2_with fail
        go_ret
        exact ⟨by rw [hb.out]; rfl, rfl⟩
  · have hb := hw false (by rw [← Bool.not_eq_true, Ut.whole_iff]; omega)
    have h3 : ¬ 57343 < c := by omega
    go_enter Try.func10, Try.ntmps10
    go_wp2_with fail
    go_ret
    exact ⟨by rw [hb.out]; rfl, rfl⟩

theorem letter_split (c : Int) (h1 : ¬ c = 215) (h2 : ¬ c = 247) (h3 : ¬ c = 894) (h4 : ¬ c = 1154) :
    Ut.letter c = (decide (97 ≤ c ∧ c ≤ 122) || (decide (65 ≤ c ∧ c ≤ 90) || (decide (48 ≤ c ∧ c ≤ 57) || (decide (192 ≤ c ∧ c ≤ 591) || (decide (880 ≤ c ∧ c ≤ 1327) || decide (19968 ≤ c ∧ c ≤ 40959)))))) := by
  have e1 : decide (192 ≤ c ∧ c ≤ 591) = (decide (192 ≤ c ∧ c ≤ 214) || (decide (216 ≤ c ∧ c ≤ 246) || decide (248 ≤ c ∧ c ≤ 591))) := by
    rw [← Bool.decide_or, ← Bool.decide_or]
    exact decide_eq_decide.2 (by omega)
  have e2 : decide (880 ≤ c ∧ c ≤ 1327) = (decide (880 ≤ c ∧ c ≤ 893) || (decide (895 ≤ c ∧ c ≤ 1153) || decide (1155 ≤ c ∧ c ≤ 1327))) := by
    rw [← Bool.decide_or, ← Bool.decide_or]
    exact decide_eq_decide.2 (by omega)
  rw [e1, e2]
  simp only [Ut.letter, Ut.among, Bool.or_assoc, Bool.or_false]
theorem fold_split (c : Int) (h1 : ¬ c = 215) (h2 : ¬ c = 930) :
    Ut.fold c = if (decide (65 ≤ c ∧ c ≤ 90) || (decide (192 ≤ c ∧ c ≤ 222) || (decide (913 ≤ c ∧ c ≤ 937) || decide (1040 ≤ c ∧ c ≤ 1071)))) = true then c + 32 else if decide (1024 ≤ c ∧ c ≤ 1039) = true then c + 80 else if c = 962 then 963 else c := by
  have e1 : decide (192 ≤ c ∧ c ≤ 222) = (decide (192 ≤ c ∧ c ≤ 214) || decide (216 ≤ c ∧ c ≤ 222)) := by
    rw [← Bool.decide_or]
    exact decide_eq_decide.2 (by omega)
  have e2 : decide (913 ≤ c ∧ c ≤ 937) = (decide (913 ≤ c ∧ c ≤ 929) || decide (931 ≤ c ∧ c ≤ 937)) := by
    rw [← Bool.decide_or]
    exact decide_eq_decide.2 (by omega)
  rw [e1, e2]
  simp only [Ut.fold, Ut.among, Bool.or_assoc, Bool.or_false, decide_eq_true_iff]
end Go.Proofs.Ytmpjhbbcfnffhaa
