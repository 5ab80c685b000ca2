/-
  The program's numbers that stand in the order.
-/
import Derived.Test.YthlbeehlcgnggaaRl
import Derived.Laws.Bits64
import Derived.Laws.Bits64b
namespace Go.Proofs.Ythlbeehlcgnggaa
open Go.RowKit

/-- The number that stands for a word. -/
def Rf.keyN (b : Nat) : Nat := if Rf.none b = true then 18446744073709551615 else if Rf.key b < 0 then 18446744073709551615 - b else Rf.rank b + 9223372036854775808

theorem Rf.key_cases (b : Nat) (hb : b < 18446744073709551616) : b < 9223372036854775808 ∧ Rf.rank b = b ∧ Rf.key b = (b : Int) ∨ 9223372036854775808 ≤ b ∧ Rf.rank b + 9223372036854775808 = b ∧ Rf.key b = -(Rf.rank b : Int) := by
  have h := Rf.below_eq b hb
  unfold Rf.key
  rw [h]
  by_cases h1 : (9223372036854775808 : Int) ≤ (b : Int)
  · right
    simp only [h1, decide_true, Rf.sv, if_true]
    refine ⟨by omega, ?_, trivial⟩
    unfold Rf.rank
    omega
  · left
    simp only [h1, decide_false, Rf.sv, Bool.false_eq_true, if_false]
    have : Rf.rank b = b := by
      unfold Rf.rank
      omega
    exact ⟨by omega, this, by rw [this]⟩

theorem Rf.none_cases (b : Nat) : Rf.none b = true ∧ 9218868437227405312 < Rf.rank b ∨ Rf.none b = false ∧ Rf.rank b ≤ 9218868437227405312 := by
  unfold Rf.none
  by_cases h : 9218868437227405312 < Rf.rank b
  · left; exact ⟨decide_eq_true h, h⟩
  · right; exact ⟨decide_eq_false h, by omega⟩

theorem Rf.keyN_lt (a b : Nat) (ha : a < 18446744073709551616) (hb : b < 18446744073709551616) : (Rf.keyN a < Rf.keyN b ↔ Rf.less a b = true) ∧ (Rf.keyN a = Rf.keyN b ↔ Rf.less a b = false ∧ Rf.less b a = false) := by
  have ka := Rf.key_cases a ha
  have kb := Rf.key_cases b hb
  have na := Rf.none_cases a
  have nb := Rf.none_cases b
  unfold Rf.keyN Rf.less
  rcases na with ⟨h1, h2⟩ | ⟨h1, h2⟩ <;> rcases nb with ⟨h3, h4⟩ | ⟨h3, h4⟩ <;> simp only [h1, h3, if_true, Bool.false_eq_true, if_false, Bool.not_true, Bool.not_false, Bool.true_and, Bool.false_and, Bool.true_or, Bool.false_or, Bool.and_true, decide_eq_true_eq, decide_eq_false_iff_not]
  all_goals (repeat' split) <;> (constructor <;> (try simp) <;> omega)

theorem Rf.key_zero : Rf.key 0 = 0 := by decide
theorem Rf.none_zero : Rf.none 0 = false := by decide
theorem Rf.lss_zero (b : Nat) (h : Rf.none b = false) : (FloatKind.f64.format.order b 0 == some .lt) = decide (Rf.key b < 0) := by
  have := Rf.lss_eq b 0
  rw [h, Rf.none_zero, Rf.key_zero] at this
  exact this

theorem Rf.xor_all (b : Nat) (hb : b < 18446744073709551616) : bits .xor .u64 IntKind.u64.max (b : Int) = ((18446744073709551615 - b : Nat) : Int) := by
  rw [show IntKind.u64.max = ((18446744073709551615 : Nat) : Int) from rfl, bits_xor_u64_nat _ _ (by decide) hb]
  congr 1
  have h1 := BitVec.toNat_not (x := BitVec.ofNat 64 b)
  rw [BitVec.not_def, BitVec.toNat_xor, BitVec.toNat_ofNat, BitVec.toNat_allOnes, Nat.mod_eq_of_lt hb] at h1
  exact h1
theorem Rf.or_sign (b : Nat) (hb : b < 9223372036854775808 ∨ b = 9223372036854775808) : bits .or .u64 (b : Int) 9223372036854775808 = ((Rf.rank b + 9223372036854775808 : Nat) : Int) := by
  rw [show (9223372036854775808 : Int) = ((9223372036854775808 : Nat) : Int) from rfl, bits_or_u64_nat _ _ (by omega) (by decide)]
  congr 1
  rcases hb with h | rfl
  · have h1 : 9223372036854775808 * 1 + b = 9223372036854775808 * 1 ||| b := Nat.two_pow_add_eq_or_of_lt (i := 63) (b := b) h 1
    rw [Nat.mul_one] at h1
    rw [Nat.or_comm, ← h1]
    have : Rf.rank b = b := by unfold Rf.rank; omega
    rw [this]
    omega
  · decide

set_option maxHeartbeats 1000000 in
theorem key_any (b : Nat) (hb : b < 18446744073709551616) (w : World) :
    Calls Try.prog 13 #[.int .u64 b] w fun e w' => e = .returned (.int .u64 (Rf.keyN b : Nat)) ∧ w' = w := by
  have e1 := from_ext
  have t1 : (b : Int).toNat = b := Int.toNat_natCast b
  have HZ := Lib.hid (Rf.lss_zero b)
  generalize hr : Rf.keyN b = r
  have HR := Lib.hid hr
  clear hr
  have hu : IntKind.u64.signed = false := rfl
  cases hx : Rf.none b
  case true =>
    go_enter Try.func13, Try.ntmps13
    go_wp2_with (go_at_call 20; refine (isNaN_any _ _).mono ?_; rintro e w' ⟨rfl, rfl⟩)
    go_ret
    refine ⟨ret_n ?_, rfl⟩
    rw [← HR.out, Rf.keyN, if_pos hx]
    rfl
  case false =>
    go_enter Try.func13, Try.ntmps13
    go_wp2_with (go_at_call 20; refine (isNaN_any _ _).mono ?_; rintro e w' ⟨rfl, rfl⟩)
    all_goals go_ret
    all_goals refine ⟨ret_n ?_, rfl⟩
    all_goals rw [← HR.out, Rf.keyN, if_neg (by rw [hx]; decide)]
    · have h : (FloatKind.f64.format.order b 0 == some .lt) = true := by assumption
      rw [HZ.out hx] at h
      have h := of_decide_eq_true h
      rw [if_pos h, Rf.xor_all b hb]
    · have h : (FloatKind.f64.format.order b 0 == some .lt) = false := by assumption
      rw [HZ.out hx] at h
      have h := of_decide_eq_false h
      rw [if_neg h, Rf.or_sign]
      have := Rf.key_cases b hb
      omega

end Go.Proofs.Ythlbeehlcgnggaa
