/-
  '&', '|' and '&^' by a number whose low bits are set alone, of an int that is not negative; no program is named here.
-/
import Derived.Laws.BitsLemmas
namespace Go.Proofs.Ytmpjhbbcfnffhaa.Sp

theorem nat_or_mask (x k : Nat) : x ||| (2 ^ k - 1) = x - x % 2 ^ k + (2 ^ k - 1) := by
  have hp : 0 < 2 ^ k := Nat.two_pow_pos k
  have hm : x % 2 ^ k < 2 ^ k := Nat.mod_lt _ hp
  have hd : 2 ^ k * (x / 2 ^ k) + x % 2 ^ k = x := Nat.div_add_mod x (2 ^ k)
  have e1 : x - x % 2 ^ k + (2 ^ k - 1) = 2 ^ k * (x / 2 ^ k) + (2 ^ k - 1) := by omega
  rw [e1]
  apply Nat.eq_of_testBit_eq
  intro i
  rw [Nat.testBit_two_pow_mul_add _ (by omega), Nat.testBit_or, Nat.testBit_two_pow_sub_one]
  by_cases h : i < k
  · simp [h]
  · simp only [h, decide_false, Bool.or_false, if_false]
    rw [Nat.testBit_div_two_pow, Nat.sub_add_cancel (by omega)]
theorem nat_clear (x k : Nat) (hx : x < 2 ^ 64) (_hk : k ≤ 64) : x &&& (2 ^ 64 - 1 - (2 ^ k - 1)) = x - x % 2 ^ k := by
  have hp : 0 < 2 ^ k := Nat.two_pow_pos k
  have hd : 2 ^ k * (x / 2 ^ k) + x % 2 ^ k = x := Nat.div_add_mod x (2 ^ k)
  have hk2 : 2 ^ k ≤ 2 ^ 64 := Nat.pow_le_pow_right (by omega) _hk
  have e1 : x - x % 2 ^ k = 2 ^ k * (x / 2 ^ k) + 0 := by omega
  rw [e1]
  apply Nat.eq_of_testBit_eq
  intro i
  have e2 : 2 ^ 64 - 1 - (2 ^ k - 1) = 2 ^ 64 - ((2 ^ k - 1) + 1) := by omega
  rw [Nat.testBit_two_pow_mul_add _ (by omega), Nat.testBit_and, e2, Nat.testBit_two_pow_sub_succ (by omega), Nat.testBit_two_pow_sub_one, Nat.zero_testBit]
  by_cases h : i < k
  · simp [h]
  · simp only [h, decide_false, Bool.not_false, Bool.and_true, if_false]
    rw [Nat.testBit_div_two_pow, Nat.sub_add_cancel (by omega)]
    by_cases h6 : i < 64
    · simp [h6]
    · have : x.testBit i = false := Nat.testBit_lt_two_pow (Nat.lt_of_lt_of_le hx (Nat.pow_le_pow_right (by omega) (by omega)))
      simp [this]
theorem wrap_small (n : Nat) (h : n < 9223372036854775808) : IntKind.i64.wrap (n : Int) = (n : Int) := by
  rw [IntKind.wrap_i64]
  omega
theorem ofInt_nat (n : Nat) (h : n < 2 ^ 64) : (BitVec.ofInt 64 (n : Int)).toNat = n := by
  rw [BitVec.ofInt_natCast, BitVec.toNat_ofNat]
  exact Nat.mod_eq_of_lt h
theorem and_nat (x k : Nat) (hx : x < 2 ^ 40) (hk : k ≤ 40) : bits .and .i64 (x : Int) ((2 ^ k - 1 : Nat) : Int) = ((x % 2 ^ k : Nat) : Int) := by
  have hk2 : 2 ^ k ≤ 2 ^ 40 := Nat.pow_le_pow_right (by omega) hk
  show IntKind.i64.wrap ((BitVec.ofInt 64 (x : Int) &&& BitVec.ofInt 64 ((2 ^ k - 1 : Nat) : Int)).toNat : Int) = _
  rw [BitVec.toNat_and, ofInt_nat x (by omega), ofInt_nat _ (by omega), Nat.and_two_pow_sub_one_eq_mod]
  exact wrap_small _ (Nat.lt_of_le_of_lt (Nat.mod_le _ _) (by omega))
theorem or_nat (x k : Nat) (hx : x < 2 ^ 40) (hk : k ≤ 40) : bits .or .i64 (x : Int) ((2 ^ k - 1 : Nat) : Int) = ((x - x % 2 ^ k + (2 ^ k - 1) : Nat) : Int) := by
  have hk2 : 2 ^ k ≤ 2 ^ 40 := Nat.pow_le_pow_right (by omega) hk
  show IntKind.i64.wrap ((BitVec.ofInt 64 (x : Int) ||| BitVec.ofInt 64 ((2 ^ k - 1 : Nat) : Int)).toNat : Int) = _
  rw [BitVec.toNat_or, ofInt_nat x (by omega), ofInt_nat _ (by omega), nat_or_mask]
  exact wrap_small _ (by omega)
theorem clear_nat (x k : Nat) (hx : x < 2 ^ 40) (hk : k ≤ 40) : bits .andNot .i64 (x : Int) ((2 ^ k - 1 : Nat) : Int) = ((x - x % 2 ^ k : Nat) : Int) := by
  have hk2 : 2 ^ k ≤ 2 ^ 40 := Nat.pow_le_pow_right (by omega) hk
  show IntKind.i64.wrap ((BitVec.ofInt 64 (x : Int) &&& ~~~ BitVec.ofInt 64 ((2 ^ k - 1 : Nat) : Int)).toNat : Int) = _
  rw [BitVec.toNat_and, BitVec.toNat_not, ofInt_nat x (by omega), ofInt_nat _ (by omega), nat_clear x k (by omega) (by omega)]
  exact wrap_small _ (by omega)
theorem and_int (x : Int) (k m : Nat) (hm : m = 2 ^ k) (h0 : 0 ≤ x) (h1 : x < 1099511627776) (hk : k ≤ 40) : bits .and .i64 x ((m : Int) - 1) = x % m := by
  obtain ⟨n, rfl⟩ : ∃ n : Nat, x = n := ⟨x.toNat, by omega⟩
  have hp : 0 < 2 ^ k := Nat.two_pow_pos k
  have := and_nat n k (by omega) hk
  rw [show ((m : Int) - 1) = ((2 ^ k - 1 : Nat) : Int) by omega, this, hm]
  simp
theorem or_int (x : Int) (k m : Nat) (hm : m = 2 ^ k) (h0 : 0 ≤ x) (h1 : x < 1099511627776) (hk : k ≤ 40) : bits .or .i64 x ((m : Int) - 1) = x - x % m + ((m : Int) - 1) := by
  obtain ⟨n, rfl⟩ : ∃ n : Nat, x = n := ⟨x.toNat, by omega⟩
  have hp : 0 < 2 ^ k := Nat.two_pow_pos k
  have hl := Nat.mod_le n (2 ^ k)
  have := or_nat n k (by omega) hk
  rw [show ((m : Int) - 1) = ((2 ^ k - 1 : Nat) : Int) by omega, this, hm]
  rw [Int.natCast_add, Int.natCast_sub hl, Int.natCast_emod]
theorem clear_int (x : Int) (k m : Nat) (hm : m = 2 ^ k) (h0 : 0 ≤ x) (h1 : x < 1099511627776) (hk : k ≤ 40) : bits .andNot .i64 x ((m : Int) - 1) = x - x % m := by
  obtain ⟨n, rfl⟩ : ∃ n : Nat, x = n := ⟨x.toNat, by omega⟩
  have hp : 0 < 2 ^ k := Nat.two_pow_pos k
  have hl := Nat.mod_le n (2 ^ k)
  have := clear_nat n k (by omega) hk
  rw [show ((m : Int) - 1) = ((2 ^ k - 1 : Nat) : Int) by omega, this, hm]
  rw [Int.natCast_sub hl, Int.natCast_emod]
end Go.Proofs.Ytmpjhbbcfnffhaa.Sp
