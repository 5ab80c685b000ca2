/-
  Which float stands ahead of which: the program's and the document's own.
-/
import Derived.Test.YthlbeehlcgnggaaProg
import Derived.WalkKit
import Derived.WalkSpells
import Derived.WalkLawsBesides
import Derived.IntWalk
import Derived.Lib.Hide
import Derived.BigQuiet
import Derived.Test.YthlbeehlcgnggaaRf
namespace Go.Proofs.Ythlbeehlcgnggaa
open Go.RowKit

theorem from_ext (n : Int) (w : World) : (callFunc 18 #[.int .u64 n]).run Try.prog w = .ok (.value (.float .f64 n.toNat)) w := by
  rw [run_callFunc_extern Try.func18 (by kernel_rfl) (by kernel_rfl) (by kernel_rfl) (e := Extern.MathFloatBits.float64frombits) (by kernel_rfl)]
  rfl
theorem bits_ext (b : Nat) (w : World) : (callFunc 26 #[.float .f64 b]).run Try.prog w = .ok (.value (.int .u64 b)) w := by
  rw [run_callFunc_extern Try.func26 (by kernel_rfl) (by kernel_rfl) (by kernel_rfl) (e := Extern.MathFloatBits.float64bits) (by kernel_rfl)]
  rfl

theorem ret_b {a b : Bool} (h : a = b) : Ending.returned (.bool a) = .returned (.bool b) := by rw [h]
theorem ret_n {k : IntKind} {a b : Int} (h : a = b) : Ending.returned (.int k a) = .returned (.int k b) := by rw [h]

set_option maxHeartbeats 400000 in
theorem isNaN_any (b : Nat) (w : World) :
    Calls Try.prog 20 #[.float .f64 b] w fun e w' => e = .returned (.bool (Rf.none b)) ∧ w' = w := by
  go_enter Try.func20, Try.ntmps20
  go_wp2
  go_ret
  exact ⟨ret_b (Rf.self_eq b), rfl⟩

set_option maxHeartbeats 400000 in
theorem rank_any (b : Nat) (hb : b < 18446744073709551616) (w : World) :
    Calls Try.prog 22 #[.int .u64 b] w fun e w' => e = .returned (.int .u64 (Rf.rank b : Nat)) ∧ w' = w := by
  go_enter Try.func22, Try.ntmps22
  go_wp2
  go_ret
  exact ⟨ret_n (by unfold Rf.rank; omega), rfl⟩

set_option maxHeartbeats 400000 in
theorem none_any (b : Nat) (hb : b < 18446744073709551616) (w : World) :
    Calls Try.prog 21 #[.int .u64 b] w fun e w' => e = .returned (.bool (Rf.none b)) ∧ w' = w := by
  go_enter Try.func21, Try.ntmps21
  go_wp2_with (go_at_call 22; refine (rank_any b hb _).mono ?_; rintro e w' ⟨rfl, rfl⟩)
  go_ret
  exact ⟨ret_b (by unfold Rf.none; exact decide_eq_decide.2 (by omega)), rfl⟩

set_option maxHeartbeats 1000000 in
theorem less_any (a b : Nat) (w : World) :
    Calls Try.prog 9 #[.int .u64 a, .int .u64 b] w fun e w' => e = .returned (.bool (Rf.less a b)) ∧ w' = w := by
  have e1 := from_ext
  have t1 : (a : Int).toNat = a := Int.toNat_natCast a
  have t2 : (b : Int).toNat = b := Int.toNat_natCast b
  have HL := Lib.hid (show (FloatKind.f64.format.order a b == some .lt) = (!Rf.none a && !Rf.none b && decide (Rf.key a < Rf.key b)) from Rf.lss_eq a b)
  have HD := Lib.hid (show Rf.less a b = (!Rf.none a && (Rf.none b || decide (Rf.key a < Rf.key b))) from rfl)
  go_enter Try.func9, Try.ntmps9
  go_wp2_with (go_at_call 20; refine (isNaN_any _ _).mono ?_; rintro e w' ⟨rfl, rfl⟩)
  all_goals go_ret
  all_goals refine ⟨ret_b ?_, rfl⟩
  all_goals clear e1 t1 t2
  all_goals have hl := HL.out
  all_goals rw [HD.out]
  all_goals clear HL HD
  all_goals (cases hna : Rf.none a <;> cases hnb : Rf.none b <;> simp_all)

/-- A stands from B to C. -/
def Rf.within (x lo hi : Nat) : Bool := !Rf.less x lo && !Rf.less hi x

set_option maxHeartbeats 1000000 in
theorem within_any (a b c : Nat) (w : World) :
    Calls Try.prog 11 #[.int .u64 a, .int .u64 b, .int .u64 c] w fun e w' => e = .returned (.bool (Rf.within a b c)) ∧ w' = w := by
  have HD := Lib.hid (show Rf.within a b c = (!Rf.less a b && !Rf.less c a) from rfl)
  go_enter Try.func11, Try.ntmps11
  go_wp2_with (go_at_call 9; refine (less_any _ _ _).mono ?_; rintro e w' ⟨rfl, rfl⟩)
  all_goals go_ret
  all_goals refine ⟨ret_b ?_, rfl⟩
  all_goals rw [HD.out]
  all_goals clear HD
  all_goals (cases h1 : Rf.less a b <;> cases h2 : Rf.less c a <;> simp_all)

theorem Rf.below_eq (b : Nat) (hb : b < 18446744073709551616) : Rf.neg b = decide ((9223372036854775808 : Int) ≤ (b : Int)) := by
  unfold Rf.neg
  by_cases h : (9223372036854775808 : Int) ≤ (b : Int)
  · have : b / 9223372036854775808 = 1 := by omega
    rw [this]
    simp [h]
  · have : b / 9223372036854775808 = 0 := by omega
    rw [this]
    simp [h]
theorem Rf.less_far (a b : Nat) (hx : Rf.none a = false) (hy : Rf.none b = false) : Rf.less a b = decide (Rf.sv (Rf.neg a) (Rf.rank a) < Rf.sv (Rf.neg b) (Rf.rank b)) := by
  unfold Rf.less Rf.key
  rw [hx, hy]
  rfl
theorem Rf.less_none (a b : Nat) (hx : Rf.none a = true) : Rf.less a b = false := by
  unfold Rf.less
  rw [hx]
  rfl
theorem Rf.none_less (a b : Nat) (hx : Rf.none a = false) (hy : Rf.none b = true) : Rf.less a b = true := by
  unfold Rf.less
  rw [hx, hy]
  rfl

set_option maxRecDepth 100000 in
set_option maxHeartbeats 1000000 in
theorem refLess_any (a b : Nat) (ha : a < 18446744073709551616) (hb : b < 18446744073709551616) (w : World) :
    Calls Try.prog 10 #[.int .u64 a, .int .u64 b] w fun e w' => e = .returned (.bool (Rf.less a b)) ∧ w' = w := by
  have hN : ∀ (x : Nat), x < 18446744073709551616 → ∀ w, Calls Try.prog 21 #[.int .u64 x] w fun e w' => e = .returned (.bool (Rf.none x)) ∧ w' = w := fun x hx w => none_any x hx w
  have hR : ∀ (x : Nat), x < 18446744073709551616 → ∀ w, Calls Try.prog 22 #[.int .u64 x] w fun e w' => e = .returned (.int .u64 (Rf.rank x : Nat)) ∧ w' = w := fun x hx w => rank_any x hx w
  have l1 := Rf.less_none a b
  have l2 := Rf.none_less a b
  have l3 := Rf.less_far a b
  rw [Rf.below_eq a ha, Rf.below_eq b hb] at l3
  generalize Rf.none = NN at *
  generalize Rf.rank = RR at *
  generalize Rf.less a b = r at *
  cases hx : NN a
  case true =>
    obtain rfl := l1 hx
    clear l1 l2 l3
    go_enter Try.func10, Try.ntmps10
    go_wp2_with (go_at_call 21; refine (hN _ (by assumption) _).mono ?_; rintro e w' ⟨rfl, rfl⟩)
    go_ret
    exact ⟨rfl, rfl⟩
  case false =>
  cases hy : NN b
  case true =>
    obtain rfl := l2 hx hy
    clear l1 l2 l3
    go_enter Try.func10, Try.ntmps10
    go_wp2_with (go_at_call 21; refine (hN _ (by assumption) _).mono ?_; rintro e w' ⟨rfl, rfl⟩)
    go_ret
    exact ⟨rfl, rfl⟩
  case false =>
  replace l3 := l3 hx hy
  clear l1 l2
  by_cases hlt : Rf.sv (decide ((9223372036854775808 : Int) ≤ (a : Int))) (RR a) < Rf.sv (decide ((9223372036854775808 : Int) ≤ (b : Int))) (RR b)
  all_goals simp only [hlt, decide_true, decide_false] at l3
  all_goals subst l3
  all_goals by_cases c1 : (9223372036854775808 : Int) ≤ (a : Int) <;> by_cases c2 : (9223372036854775808 : Int) ≤ (b : Int) <;> by_cases c3 : 0 < RR a <;> by_cases c4 : 0 < RR b <;> by_cases c5 : RR a < RR b <;> by_cases c6 : RR b < RR a
  all_goals simp only [c1, c2, decide_true, decide_false, Rf.sv, if_true, Bool.false_eq_true, if_false] at hlt
  all_goals first | (exfalso; omega) | skip
  all_goals clear hlt
  all_goals go_enter Try.func10, Try.ntmps10
  all_goals go_wp2_with fail
  all_goals go_at_call 21
  all_goals refine (hN _ (by assumption) _).mono ?_
  all_goals rintro e w' ⟨rfl, rfl⟩
  all_goals go_wp2_with fail
  all_goals go_at_call 21
  all_goals refine (hN _ (by assumption) _).mono ?_
  all_goals rintro e w' ⟨rfl, rfl⟩
  all_goals generalize (9223372036854775808 : Int) = SG at *
  all_goals clear hN
  all_goals go_wp2_with (go_at_call 22; refine (hR _ (by assumption) _).mono ?_; rintro e w' ⟨rfl, rfl⟩)
  all_goals go_ret
  all_goals first | exact ⟨rfl, rfl⟩ | (simp only [c3, c4, c5, c6, decide_true, decide_false]; exact ⟨rfl, rfl⟩)

set_option maxHeartbeats 1000000 in
theorem refWithin_any (a b c : Nat) (ha : a < 18446744073709551616) (hb : b < 18446744073709551616) (hc : c < 18446744073709551616) (w : World) :
    Calls Try.prog 12 #[.int .u64 a, .int .u64 b, .int .u64 c] w fun e w' => e = .returned (.bool (Rf.within a b c)) ∧ w' = w := by
  have HD := Lib.hid (show Rf.within a b c = (!Rf.less a b && !Rf.less c a) from rfl)
  go_enter Try.func12, Try.ntmps12
  go_wp2_with (go_at_call 10; refine (refLess_any _ _ (by assumption) (by assumption) _).mono ?_; rintro e w' ⟨rfl, rfl⟩)
  all_goals go_ret
  all_goals refine ⟨ret_b ?_, rfl⟩
  all_goals rw [HD.out]
  all_goals clear HD
  all_goals (cases h1 : Rf.less a b <;> cases h2 : Rf.less c a <;> simp_all)

end Go.Proofs.Ythlbeehlcgnggaa
