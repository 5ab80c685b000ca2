/-
  The quotient of two whole numbers by IEEE's division.
-/
import Derived.Test.YthlbeehlcgnggaaRg
namespace Go.Proofs.Ythlbeehlcgnggaa
namespace Rf

/-- The quotient's digits: two more than the float has, or three, and one for what is left. -/
theorem nearest_quot (a b : Nat) (ha : 0 < a) (hla : a < 9007199254740992) (hb : 0 < b) (hlb : b < 1024) (la : a.log2 ≤ 52) (lb : b.log2 ≤ 9) (u : Nat) (hu : u + a.log2 = 54 + b.log2) (p : Int) (hp : p = -(u : Int) - 1) (Q : Nat)
    (hQ : Q = 2 * (a * 2 ^ u / b) + (if a * 2 ^ u % b = 0 then 0 else 1)) : Ieee.double.nearest false Q p = (1074 - scale a b) * 4503599627370496 + rnd (a * 2 ^ scale a b) b := by
  obtain ⟨s1, s2⟩ := scale_spec a b ha hb hla
  have hsc : scale a b + 2 = u ∨ scale a b + 1 = u := by
    unfold scale
    split <;> omega
  have hs62 := scale_le a b hlb
  obtain ⟨s, hS⟩ : ∃ s, scale a b = s := ⟨_, rfl⟩
  rw [hS] at s1 s2 hsc hs62 ⊢
  clear hS
  obtain ⟨c, d, hcd, hc, hX⟩ : ∃ c d, (c = 2 ∧ d = 2 ∨ c = 4 ∧ d = 3) ∧ s + d = u + 1 ∧ a * 2 ^ u = a * 2 ^ s * c := by
    rcases hsc with h | h
    · refine ⟨4, 3, .inr ⟨rfl, rfl⟩, by omega, ?_⟩
      rw [← h, Nat.pow_add, Nat.mul_assoc]
    · refine ⟨2, 2, .inl ⟨rfl, rfl⟩, by omega, ?_⟩
      rw [← h, Nat.pow_add, Nat.mul_assoc]
  rw [hX] at hQ
  clear hX hu hsc la lb ha hla
  generalize a * 2 ^ s = A at *
  have q1 : 4503599627370496 * c ≤ A * c / b := (Nat.le_div_iff_mul_le hb).2 (by
    calc 4503599627370496 * c * b = 4503599627370496 * b * c := by rw [Nat.mul_assoc, Nat.mul_comm c, ← Nat.mul_assoc]
      _ ≤ _ := Nat.mul_le_mul_right _ s1)
  have q2 : A * c / b < 9007199254740992 * c := (Nat.div_lt_iff_lt_mul hb).2 (by
    calc A * c < 9007199254740992 * b * c := Nat.mul_lt_mul_of_pos_right s2 (by omega)
      _ = _ := by rw [Nat.mul_assoc, Nat.mul_comm b, ← Nat.mul_assoc])
  have hrq := rnd_quot A b c Q hb (by omega) hQ
  have hQ1 : 9007199254740992 * c ≤ Q := by omega
  have hQ2 : Q < 18014398509481984 * c := by
    have hst : (if A * c % b = 0 then 0 else 1) ≤ 1 := by split <;> omega
    omega
  have hr1 : rnd A b ≤ 9007199254740992 := rnd_le A b _ hb s2
  clear q1 q2 hQ s1 s2
  generalize rnd A b = R at *
  have hL : Q.log2 = 50 + d + 2 := by
    apply log2_is
    · rcases hcd with ⟨rfl, rfl⟩ | ⟨rfl, rfl⟩ <;> simp <;> omega
    · rcases hcd with ⟨rfl, rfl⟩ | ⟨rfl, rfl⟩ <;> simp <;> omega
  have hdc : 2 ^ d = 2 * c := by rcases hcd with ⟨rfl, rfl⟩ | ⟨rfl, rfl⟩ <;> rfl
  have hcut : Ieee.Toward.cut .even false Q d = R := by
    rw [cut_eq Q d (by omega), hdc]
    exact hrq
  clear hrq hdc
  rw [nearest_eq Q p (-(s : Int)) (by omega) (by rw [hL]; omega) (by omega)]
  rw [show (p - -(s : Int)).toNat = 0 by omega, Nat.shiftLeft_zero, show (-(s : Int) - p).toNat = d by omega]
  have t1 : (-(s : Int) + 1074).toNat = 1074 - s := by omega
  rw [hcut, t1]
  clear hcut hL hcd hQ1 hQ2 hc hp
  have t2 : (1074 - s) * 4503599627370496 + R ≤ 9218868437227405312 := by omega
  exact Nat.min_eq_left t2

theorem nearest_zero (p : Int) : Ieee.double.nearest false 0 p = 0 := by
  unfold Ieee.Format.nearest
  rw [if_pos rfl]
  rfl
theorem quot_zero (d n : Nat) (i j : Int) (hn : n ≠ 0) : ∃ p, Ieee.Datum.quotient d (.number false 0 i) (.number false n j) = some (.number false 0 p) := by
  simp only [Ieee.Datum.quotient]
  rw [if_neg hn, Nat.zero_shiftLeft, Nat.zero_div, Nat.zero_mod]
  exact ⟨_, rfl⟩

/-- IEEE's division gives just that. -/
theorem div_eq (a b : Nat) (hla : a < 9007199254740992) (hb : 0 < b) (hlb : b < 1024) :
    floatBits .quo .f64 (floatOfInt .f64 (a : Int)) (floatOfInt .f64 (b : Int)) = some (ratio a b) := by
  change Ieee.double.div _ _ = _
  rw [floatOfInt_nat, floatOfInt_nat]
  unfold Ieee.Format.div
  rw [read_nat b hb (by omega)]
  have lb : b.log2 ≤ 9 := log2_le hb (by simpa using hlb)
  have b1 := log2_lo hb
  have b2 := log2_hi b
  have hbn : b * 2 ^ (52 - b.log2) ≠ 0 := Nat.mul_ne_zero (by omega) (by have := Nat.two_pow_pos (52 - b.log2); omega)
  have lbn : (b * 2 ^ (52 - b.log2)).log2 = 52 := by
    apply log2_is
    · calc 2 ^ 52 = 2 ^ b.log2 * 2 ^ (52 - b.log2) := by rw [← Nat.pow_add, show b.log2 + (52 - b.log2) = 52 by omega]
        _ ≤ _ := Nat.mul_le_mul_right _ b1
    · calc b * 2 ^ (52 - b.log2) < 2 ^ (b.log2 + 1) * 2 ^ (52 - b.log2) := Nat.mul_lt_mul_of_pos_right b2 (Nat.two_pow_pos _)
        _ = _ := by rw [← Nat.pow_add, show b.log2 + 1 + (52 - b.log2) = 52 + 1 by omega]
  have e5 : Ieee.double.fractionBits = 52 := rfl
  rcases Nat.eq_zero_or_pos a with rfl | ha
  · have e : Ieee.double.read (Ieee.double.nearest false 0 0) = .number false 0 (-1074) := by decide
    rw [e]
    obtain ⟨p, hp⟩ := quot_zero (Ieee.double.fractionBits + 2) (b * 2 ^ (52 - b.log2)) (-1074) ((b.log2 : Int) - 52) hbn
    rw [hp]
    exact congrArg some (nearest_zero p)
  rw [read_nat a ha hla]
  have la : a.log2 ≤ 52 := log2_le ha (by simpa using hla)
  have a1 := log2_lo ha
  have a2 := log2_hi a
  have lan : (a * 2 ^ (52 - a.log2)).log2 = 52 := by
    apply log2_is
    · calc 2 ^ 52 = 2 ^ a.log2 * 2 ^ (52 - a.log2) := by rw [← Nat.pow_add, show a.log2 + (52 - a.log2) = 52 by omega]
        _ ≤ _ := Nat.mul_le_mul_right _ a1
    · calc a * 2 ^ (52 - a.log2) < 2 ^ (a.log2 + 1) * 2 ^ (52 - a.log2) := Nat.mul_lt_mul_of_pos_right a2 (Nat.two_pow_pos _)
        _ = _ := by rw [← Nat.pow_add, show a.log2 + 1 + (52 - a.log2) = 52 + 1 by omega]
  simp only [Ieee.Datum.quotient]
  rw [if_neg hbn, lbn, lan, e5]
  have hD : (a * 2 ^ (52 - a.log2)) <<< (52 + 2 + 52 - 52) = (a * 2 ^ (54 + b.log2 - a.log2)) * 2 ^ (52 - b.log2) := by
    rw [Nat.shiftLeft_eq, Nat.mul_assoc, Nat.mul_assoc, ← Nat.pow_add, ← Nat.pow_add, show 52 - a.log2 + (52 + 2 + 52 - 52) = 54 + b.log2 - a.log2 + (52 - b.log2) by omega]
  rw [hD, Nat.mul_div_mul_right _ _ (Nat.two_pow_pos _), Nat.mul_mod_mul_right]
  have hst : ((a * 2 ^ (54 + b.log2 - a.log2) % b * 2 ^ (52 - b.log2) != 0)).toNat = if a * 2 ^ (54 + b.log2 - a.log2) % b = 0 then 0 else 1 := by
    have hp : 2 ^ (52 - b.log2) ≠ 0 := by have := Nat.two_pow_pos (52 - b.log2); omega
    by_cases h : a * 2 ^ (54 + b.log2 - a.log2) % b = 0
    · rw [h]; simp
    · rw [if_neg h]
      have : a * 2 ^ (54 + b.log2 - a.log2) % b * 2 ^ (52 - b.log2) ≠ 0 := Nat.mul_ne_zero h hp
      simp [this]
  rw [hst]
  simp only [Option.map_some, Ieee.Format.write, bne_self_eq_false]
  unfold ratio
  rw [if_neg (show ¬ a = 0 by omega)]
  exact congrArg some (nearest_quot a b ha hla hb hlb la lb (54 + b.log2 - a.log2) (by omega) _ (by omega) _ rfl)

end Rf
end Go.Proofs.Ythlbeehlcgnggaa
