/-
  The quotient of two whole numbers, rounded to the next float: plainly; and that IEEE's division gives it.
-/
import Derived.Test.YthlbeehlcgnggaaRf
namespace Go.Proofs.Ythlbeehlcgnggaa
namespace Rf

/-- A / b, rounded: of two as near, the even one. -/
def rnd (A b : Nat) : Nat := A / b + if b < 2 * (A % b) ∨ 2 * (A % b) = b ∧ A / b % 2 = 1 then 1 else 0
/-- How many places a moves up, so that a / b has 53 digits. -/
def scale (a b : Nat) : Nat := if a * 2 ^ (52 + b.log2 - a.log2) < 4503599627370496 * b then 52 + b.log2 - a.log2 + 1 else 52 + b.log2 - a.log2
/-- The bits of a / b. -/
def ratio (a b : Nat) : Nat := if a = 0 then 0 else (1074 - scale a b) * 4503599627370496 + rnd (a * 2 ^ scale a b) b

theorem log2_is {n k : Nat} (h1 : 2 ^ k ≤ n) (h2 : n < 2 ^ (k + 1)) : n.log2 = k := by
  have h0 : 0 < 2 ^ k := Nat.two_pow_pos _
  exact (Nat.log2_eq_iff (by omega)).2 ⟨h1, h2⟩
theorem log2_lo {n : Nat} (h : 0 < n) : 2 ^ n.log2 ≤ n := Nat.log2_self_le (by omega)
theorem log2_hi (n : Nat) : n < 2 ^ (n.log2 + 1) := Nat.lt_log2_self
theorem log2_le {n k : Nat} (h0 : 0 < n) (h : n < 2 ^ (k + 1)) : n.log2 ≤ k := by
  have := (Nat.log2_lt (by omega : n ≠ 0)).2 h
  omega

theorem rnd_le (A b c : Nat) (hb : 0 < b) (h : A < c * b) : rnd A b ≤ c := by
  have h1 : A / b < c := (Nat.div_lt_iff_lt_mul hb).2 h
  unfold rnd
  split <;> omega
theorem le_rnd (A b c : Nat) (hb : 0 < b) (h : c * b ≤ A) : c ≤ rnd A b := by
  have h1 : c ≤ A / b := (Nat.le_div_iff_mul_le hb).2 h
  unfold rnd
  omega

/-- The places: what they do. -/
theorem scale_spec (a b : Nat) (ha : 0 < a) (hb : 0 < b) (hla : a < 9007199254740992) : 4503599627370496 * b ≤ a * 2 ^ scale a b ∧ a * 2 ^ scale a b < 9007199254740992 * b := by
  have a1 := log2_lo ha
  have a2 := log2_hi a
  have b1 := log2_lo hb
  have b2 := log2_hi b
  have la : a.log2 ≤ 52 := log2_le ha (by simpa using hla)
  have h1 : 2 ^ (52 + b.log2) ≤ a * 2 ^ (52 + b.log2 - a.log2) := by
    calc 2 ^ (52 + b.log2) = 2 ^ a.log2 * 2 ^ (52 + b.log2 - a.log2) := by rw [← Nat.pow_add]; congr 1; omega
      _ ≤ _ := Nat.mul_le_mul_right _ a1
  have h2 : a * 2 ^ (52 + b.log2 - a.log2) < 2 ^ (53 + b.log2) := by
    calc a * 2 ^ (52 + b.log2 - a.log2) < 2 ^ (a.log2 + 1) * 2 ^ (52 + b.log2 - a.log2) := Nat.mul_lt_mul_of_pos_right a2 (Nat.two_pow_pos _)
      _ = _ := by rw [← Nat.pow_add]; congr 1; omega
  have h3 : 2 ^ (52 + b.log2) = 4503599627370496 * 2 ^ b.log2 := by rw [Nat.pow_add]
  have h4 : 2 ^ (53 + b.log2) = 9007199254740992 * 2 ^ b.log2 := by rw [Nat.pow_add]
  have h5 : 2 ^ (b.log2 + 1) = 2 ^ b.log2 * 2 := Nat.pow_succ ..
  unfold scale
  by_cases hc : a * 2 ^ (52 + b.log2 - a.log2) < 4503599627370496 * b
  · rw [if_pos hc, Nat.pow_succ, ← Nat.mul_assoc]
    omega
  · rw [if_neg hc]
    omega

/-- They are the only ones that do it. -/
theorem scale_uniq (a b s t : Nat) (h1 : 4503599627370496 * b ≤ a * 2 ^ s) (h2 : a * 2 ^ t < 9007199254740992 * b) (h3 : s < t) : False := by
  obtain ⟨d, rfl⟩ : ∃ d, t = s + 1 + d := ⟨t - s - 1, by omega⟩
  have h4 : 0 < 2 ^ d := Nat.two_pow_pos _
  have h5 : a * 2 ^ (s + 1 + d) = a * 2 ^ s * 2 * 2 ^ d := by rw [Nat.pow_add, Nat.pow_succ]; simp only [Nat.mul_assoc]
  rw [h5] at h2
  have h6 : a * 2 ^ s * 2 * 1 ≤ a * 2 ^ s * 2 * 2 ^ d := Nat.mul_le_mul_left _ h4
  omega
theorem scale_is (a b s : Nat) (ha : 0 < a) (hb : 0 < b) (hla : a < 9007199254740992) (h1 : 4503599627370496 * b ≤ a * 2 ^ s) (h2 : a * 2 ^ s < 9007199254740992 * b) : scale a b = s := by
  obtain ⟨h3, h4⟩ := scale_spec a b ha hb hla
  rcases Nat.lt_trichotomy (scale a b) s with h | h | h
  · exact (scale_uniq a b _ _ h3 h2 h).elim
  · exact h
  · exact (scale_uniq a b _ _ h1 h4 h).elim
theorem scale_le (a b : Nat) (hb : b < 1024) : scale a b ≤ 62 := by
  rcases Nat.eq_zero_or_pos b with rfl | h0
  · unfold scale
    have : Nat.log2 0 = 0 := rfl
    split <;> omega
  have : b.log2 ≤ 9 := log2_le h0 (by simpa using hb)
  unfold scale
  split <;> omega

theorem rnd_quot (A b c Q : Nat) (hb : 0 < b) (hc : c = 2 ∨ c = 4) (hQ : Q = 2 * (A * c / b) + if A * c % b = 0 then 0 else 1) :
    Q / (2 * c) + (if 2 * c < 2 * (Q % (2 * c)) ∨ 2 * c = 2 * (Q % (2 * c)) ∧ Q / (2 * c) % 2 = 1 then 1 else 0) = rnd A b := by
  have e1 := Nat.div_add_mod A b
  have e2 := Nat.mod_lt A hb
  have e3 := Nat.div_add_mod (A % b * c) b
  have e4 := Nat.mod_lt (A % b * c) hb
  have e5 : A * c = A % b * c + b * (A / b * c) := by
    calc A * c = (b * (A / b) + A % b) * c := by rw [e1]
      _ = _ := by rw [Nat.add_mul, Nat.add_comm, Nat.mul_assoc]
  have e6 : A * c / b = A % b * c / b + A / b * c := by rw [e5, Nat.add_mul_div_left _ _ hb]
  have e7 : A * c % b = A % b * c % b := by rw [e5, Nat.add_mul_mod_self_left]
  rw [e6, e7] at hQ
  unfold rnd
  generalize A / b = low at *
  generalize A % b = r at *
  generalize hz : r * c / b = z at *
  generalize hy : r * c % b = y at *
  clear e1 e5 e6 e7 hy
  have hzc : z < c := by
    rw [← hz]
    exact (Nat.div_lt_iff_lt_mul hb).2 (by rw [Nat.mul_comm c]; exact Nat.mul_lt_mul_of_pos_right e2 (by omega))
  clear hz
  rcases hc with rfl | rfl
  · have : z = 0 ∨ z = 1 := by omega
    rcases this with rfl | rfl <;> (by_cases hy : y = 0 <;> simp only [hy, if_true, if_false] at hQ <;> (repeat' split) <;> omega)
  · have : z = 0 ∨ z = 1 ∨ z = 2 ∨ z = 3 := by omega
    rcases this with rfl | rfl | rfl | rfl <;> (by_cases hy : y = 0 <;> simp only [hy, if_true, if_false] at hQ <;> (repeat' split) <;> omega)

theorem cut_eq (n d : Nat) (h : d ≤ n.log2 + 2) : Ieee.Toward.cut .even false n d = n / 2 ^ d + (if 2 ^ d < 2 * (n % 2 ^ d) ∨ 2 ^ d = 2 * (n % 2 ^ d) ∧ n / 2 ^ d % 2 = 1 then 1 else 0) := by
  unfold Ieee.Toward.cut
  rw [Nat.min_eq_left h, Nat.shiftLeft_eq, Nat.one_mul]
  dsimp only
  congr 1
  by_cases h1 : 2 ^ d < 2 * (n % 2 ^ d)
  · simp [h1]
  · by_cases h2 : 2 ^ d = 2 * (n % 2 ^ d)
    · by_cases h3 : n / 2 ^ d % 2 = 1
      · simp [← h2, h3]
      · simp [← h2, h3]
    · simp [h1, h2]

theorem nearest_eq (Q : Nat) (p last : Int) (hQ : 0 < Q) (hl : last = p + (Q.log2 : Int) - 52) (h1 : -1074 ≤ last) :
    Ieee.double.nearest false Q p = min ((last + 1074).toNat * 4503599627370496 + Ieee.Toward.cut .even false (Q <<< (p - last).toNat) (last - p).toNat) 9218868437227405312 := by
  have e2 : Ieee.double.binade = 4503599627370496 := by decide
  have e3 : Ieee.double.infRung = 9218868437227405312 := by decide
  have e4 : Ieee.double.leastPlace = -1074 := by decide
  have e5 : Ieee.double.fractionBits = 52 := rfl
  unfold Ieee.Format.nearest
  rw [if_neg (by omega)]
  rw [e2, e3, e4, e5]
  have hm : max (p + (Q.log2 : Int) - ((52 : Nat) : Int)) (-1074) = last := by omega
  dsimp only
  rw [hm]
  unfold Ieee.Format.word
  rw [if_neg (by decide), show last - -1074 = last + 1074 by omega]

/-- A whole number as a float. -/
theorem nearest_nat (n : Nat) (h0 : 0 < n) (h : n < 9007199254740992) : Ieee.double.nearest false n 0 = (1022 + n.log2) * 4503599627370496 + n * 2 ^ (52 - n.log2) := by
  have l1 : n.log2 ≤ 52 := log2_le h0 (by simpa using h)
  rw [nearest_eq n 0 ((n.log2 : Int) - 52) h0 (by omega) (by omega)]
  rw [show ((n.log2 : Int) - 52 - 0).toNat = 0 by omega, show (0 - ((n.log2 : Int) - 52)).toNat = 52 - n.log2 by omega, show ((n.log2 : Int) - 52 + 1074).toNat = 1022 + n.log2 by omega]
  rw [cut_eq _ 0 (by omega)]
  have hp : n * 2 ^ (52 - n.log2) < 9007199254740992 := by
    calc n * 2 ^ (52 - n.log2) < 2 ^ (n.log2 + 1) * 2 ^ (52 - n.log2) := Nat.mul_lt_mul_of_pos_right (log2_hi n) (Nat.two_pow_pos _)
      _ = 9007199254740992 := by rw [← Nat.pow_add, show n.log2 + 1 + (52 - n.log2) = 53 by omega]
  rw [Nat.shiftLeft_eq]
  generalize n * 2 ^ (52 - n.log2) = m at *
  simp only [Nat.pow_zero, Nat.div_one, Nat.mod_one, Nat.mul_zero]
  rw [if_neg (by omega)]
  omega

/-- It is what it was. -/
theorem read_nat (n : Nat) (h0 : 0 < n) (h : n < 9007199254740992) : Ieee.double.read (Ieee.double.nearest false n 0) = .number false (n * 2 ^ (52 - n.log2)) ((n.log2 : Int) - 52) := by
  have l1 : n.log2 ≤ 52 := log2_le h0 (by simpa using h)
  rw [nearest_nat n h0 h]
  have hp : n * 2 ^ (52 - n.log2) < 9007199254740992 := by
    calc n * 2 ^ (52 - n.log2) < 2 ^ (n.log2 + 1) * 2 ^ (52 - n.log2) := Nat.mul_lt_mul_of_pos_right (log2_hi n) (Nat.two_pow_pos _)
      _ = 9007199254740992 := by rw [← Nat.pow_add, show n.log2 + 1 + (52 - n.log2) = 53 by omega]
  have hq : 4503599627370496 ≤ n * 2 ^ (52 - n.log2) := by
    calc 4503599627370496 = 2 ^ n.log2 * 2 ^ (52 - n.log2) := by rw [← Nat.pow_add, show n.log2 + (52 - n.log2) = 52 by omega]
      _ ≤ _ := Nat.mul_le_mul_right _ (log2_lo h0)
  generalize n * 2 ^ (52 - n.log2) = m at *
  generalize n.log2 = l at *
  have e1 : Ieee.double.signWeight = 9223372036854775808 := by decide
  have e2 : Ieee.double.binade = 4503599627370496 := by decide
  have e3 : Ieee.double.infRung = 9218868437227405312 := by decide
  have e4 : Ieee.double.leastPlace = -1074 := by decide
  unfold Ieee.Format.read
  rw [e1, e2, e3, e4]
  dsimp only
  have f1 : ((1022 + l) * 4503599627370496 + m) % 9223372036854775808 = (1022 + l) * 4503599627370496 + m := Nat.mod_eq_of_lt (by omega)
  have f2 : ((1022 + l) * 4503599627370496 + m) / 9223372036854775808 = 0 := Nat.div_eq_of_lt (by omega)
  rw [f1, f2, if_neg (by omega), if_pos (by omega)]
  have f3 : ((1022 + l) * 4503599627370496 + m) % 4503599627370496 = m - 4503599627370496 := by omega
  have f4 : ((1022 + l) * 4503599627370496 + m) / 4503599627370496 = 1023 + l := by omega
  rw [f3, f4]
  simp only [Ieee.Datum.number.injEq]
  exact ⟨rfl, by omega, by omega⟩

theorem floatOfInt_nat (n : Nat) : floatOfInt .f64 (n : Int) = Ieee.double.nearest false n 0 := by
  change Ieee.double.nearest (decide ((n : Int) < 0)) (n : Int).natAbs 0 = _
  rw [show decide ((n : Int) < 0) = false by simp, Int.natAbs_natCast]

end Rf
end Go.Proofs.Ythlbeehlcgnggaa
