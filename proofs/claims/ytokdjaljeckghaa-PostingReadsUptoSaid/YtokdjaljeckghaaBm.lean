/-
  The plain mathematics of bits in bytes: what is put, what is got; no program is named here.
-/
import Derived.Test.YtokdjaljeckghaaBp
namespace Go.Proofs.Ytokdjaljeckghaa.Bp

theorem pow256 (p : Nat) : 256 ^ p = 2 ^ (8 * p) := by
  rw [show (256 : Nat) = 2 ^ 8 from rfl, ← Nat.pow_mul]
theorem i64_or_nat (a b : Nat) (ha : a < 9223372036854775808) (hb : b < 9223372036854775808) : bits .or .i64 (a : Int) (b : Int) = ((a ||| b : Nat) : Int) := by
  show IntKind.i64.wrap ((BitVec.ofInt 64 (a : Int) ||| BitVec.ofInt 64 (b : Int)).toNat : Int) = _
  rw [BitVec.toNat_or, ofInt_u64 a (by omega), ofInt_u64 b (by omega)]
  have h : a ||| b < 2 ^ 63 := Nat.or_lt_two_pow (n := 63) (by simpa using ha) (by simpa using hb)
  simp only [Nat.reducePow] at h
  simp [IntKind.wrap, IntKind.bits, IntKind.signed]
  omega
theorem len_or (a b : Nat) (ha : a < 9223372036854775808) (hb : b < 9223372036854775808) : Go.Lib.bitLen (a ||| b) = Nat.max (Go.Lib.bitLen a) (Go.Lib.bitLen b) := by
  have hab : a ||| b < 9223372036854775808 := by simpa using Nat.or_lt_two_pow (n := 63) (by simpa using ha) (by simpa using hb)
  have h63 : ∀ x, x < 9223372036854775808 → Go.Lib.bitLen x ≤ 63 := fun x hx => (len_iff x 63 (by omega)).2 (by simpa using hx)
  have ka := h63 a ha
  have kb := h63 b hb
  have ko := h63 _ hab
  have h1 : Go.Lib.bitLen (a ||| b) ≤ Nat.max (Go.Lib.bitLen a) (Go.Lib.bitLen b) := by
    have hm : Nat.max (Go.Lib.bitLen a) (Go.Lib.bitLen b) < 64 := by simp only [Nat.max_def]; split <;> omega
    refine (len_iff _ _ hm).2 (Nat.or_lt_two_pow ?_ ?_)
    · exact (len_iff _ _ hm).1 (Nat.le_max_left _ _)
    · exact (len_iff _ _ hm).1 (Nat.le_max_right _ _)
  have h2 : Go.Lib.bitLen a ≤ Go.Lib.bitLen (a ||| b) := (len_iff _ _ (by omega)).2 (Nat.lt_of_le_of_lt Nat.left_le_or ((len_iff _ _ (by omega)).1 (Nat.le_refl _)))
  have h3 : Go.Lib.bitLen b ≤ Go.Lib.bitLen (a ||| b) := (len_iff _ _ (by omega)).2 (Nat.lt_of_le_of_lt Nat.right_le_or ((len_iff _ _ (by omega)).1 (Nat.le_refl _)))
  refine Nat.le_antisymm h1 (Nat.max_le.2 ⟨h2, h3⟩)

/-- A number's byte. -/
def cel (V j : Nat) : Nat := V / 256 ^ j % 256
theorem cel_lt (V j : Nat) : cel V j < 256 := Nat.mod_lt _ (by omega)
/-- What is put at a bit, of a number above which all bits are 0: the other bytes stay. -/
theorem put_other (V A q j : Nat) (hV : V < 2 ^ A) (hq : q < 2 ^ (8 - A % 8)) (hj : j ≠ A / 8) : cel (V + 2 ^ A * q) j = cel V j := by
  unfold cel
  rw [pow256]
  by_cases h : j < A / 8
  · have e : (2 : Nat) ^ A = 2 ^ (8 * j) * (256 * 2 ^ (A - 8 * j - 8)) := by
      rw [show (256 : Nat) = 2 ^ 8 from rfl, ← Nat.pow_add, ← Nat.pow_add]
      congr 1
      omega
    rw [e, Nat.mul_assoc, Nat.add_mul_div_left _ _ (Nat.two_pow_pos _), Nat.mul_assoc, Nat.add_mul_mod_self_left]
  · have h1 : V + 2 ^ A * q < 2 ^ (8 * j) := by
      have h2 : 2 ^ A * (q + 1) ≤ 2 ^ A * 2 ^ (8 - A % 8) := Nat.mul_le_mul_left _ hq
      rw [← Nat.pow_add, Nat.mul_succ] at h2
      have h3 : 2 ^ (A + (8 - A % 8)) ≤ 2 ^ (8 * j) := Nat.pow_le_pow_right (by omega) (by omega)
      omega
    have h2 : V < 2 ^ (8 * j) := by omega
    rw [Nat.div_eq_of_lt h1, Nat.div_eq_of_lt h2]
/-- .. and this one takes them. -/
theorem put_here (V A q : Nat) (hV : V < 2 ^ A) (hq : q < 2 ^ (8 - A % 8)) : cel (V + 2 ^ A * q) (A / 8) = cel V (A / 8) + 2 ^ (A % 8) * q ∧ cel V (A / 8) < 2 ^ (A % 8) ∧ cel V (A / 8) + 2 ^ (A % 8) * q < 256 := by
  have e : (2 : Nat) ^ A = 2 ^ (8 * (A / 8)) * 2 ^ (A % 8) := by
    rw [← Nat.pow_add]
    congr 1
    omega
  have h1 : V / 2 ^ (8 * (A / 8)) < 2 ^ (A % 8) := Nat.div_lt_of_lt_mul (by rw [← e]; exact hV)
  have h2 : 2 ^ (A % 8) ≤ 256 := Nat.pow_le_pow_right (n := 2) (by omega) (by omega : A % 8 ≤ 8)
  have h3 : V / 2 ^ (8 * (A / 8)) + 2 ^ (A % 8) * q < 256 := by
    have h4 : 2 ^ (A % 8) * (q + 1) ≤ 2 ^ (A % 8) * 2 ^ (8 - A % 8) := Nat.mul_le_mul_left _ hq
    rw [← Nat.pow_add, show A % 8 + (8 - A % 8) = 8 from by omega, Nat.mul_succ] at h4
    omega
  have h5 : cel V (A / 8) = V / 2 ^ (8 * (A / 8)) := by
    unfold cel
    rw [pow256]
    exact Nat.mod_eq_of_lt (by omega)
  refine ⟨?_, by omega, by omega⟩
  rw [h5]
  unfold cel
  rw [pow256]
  conv => lhs; rw [e, Nat.mul_assoc, Nat.add_mul_div_left _ _ (Nat.two_pow_pos _)]
  exact Nat.mod_eq_of_lt h3
/-- A byte or-ed with what is put, as the machine reckons it. -/
theorem put_or (c r n : Nat) (hc : c < 2 ^ r) (hr : r < 8) : c ||| (n * 2 ^ r % 18446744073709551616 % 256) = c + 2 ^ r * (n % 2 ^ (8 - r)) := by
  have e1 : n * 2 ^ r % 18446744073709551616 % 256 = 2 ^ r * (n % 2 ^ (8 - r)) := by
    rw [Nat.mod_mod_of_dvd _ (by decide : 256 ∣ 18446744073709551616), Nat.mul_comm, show (256 : Nat) = 2 ^ r * 2 ^ (8 - r) from by rw [← Nat.pow_add, show r + (8 - r) = 8 from by omega], Nat.mul_mod_mul_left]
  rw [e1, Nat.or_comm, nat_join r _ _ (by rw [Nat.mul_mod_right]) hc, Nat.add_comm]
/-- What is left to be put. -/
theorem put_rest (V A n : Nat) : V + 2 ^ A * (n % 2 ^ (8 - A % 8)) + 2 ^ (A + (8 - A % 8)) * (n / 2 ^ (8 - A % 8)) = V + 2 ^ A * n := by
  rw [Nat.pow_add, Nat.mul_assoc, Nat.add_assoc, ← Nat.mul_add, Nat.mod_add_div]
theorem put_lt (V A q : Nat) (hV : V < 2 ^ A) (hq : q < 2 ^ (8 - A % 8)) : V + 2 ^ A * q < 2 ^ (A + (8 - A % 8)) := by
  have h2 : 2 ^ A * (q + 1) ≤ 2 ^ A * 2 ^ (8 - A % 8) := Nat.mul_le_mul_left _ hq
  rw [← Nat.pow_add, Nat.mul_succ] at h2
  omega
theorem num_cel (l : List UInt8) : ∀ (y : Nat) (h : y < l.length), Pl.num l / 256 ^ y % 256 = l[y].toNat := by
  induction l with
  | nil => intro y h; cases h
  | cons c t ih =>
    intro y h
    have hc := c.toNat_lt
    cases y with
    | zero =>
      simp only [Pl.num, Nat.pow_zero, Nat.div_one, List.getElem_cons_zero]
      omega
    | succ y =>
      simp only [List.length_cons, Nat.add_lt_add_iff_right] at h
      simp only [Pl.num, List.getElem_cons_succ]
      rw [Nat.pow_succ, Nat.mul_comm (256 ^ y), ← Nat.div_div_eq_div_mul, show (c.toNat + 256 * Pl.num t) / 256 = Pl.num t from by omega]
      exact ih y h
/-- A byte's bits from one on are the number's bits from there on, to the byte's end. -/
theorem get_byte (V y r b : Nat) (hb : V / 256 ^ y % 256 = b) (hr : r < 8) : b / 2 ^ r = V / 2 ^ (8 * y + r) % 2 ^ (8 - r) := by
  rw [← hb, pow256, Nat.pow_add, ← Nat.div_div_eq_div_mul]
  rw [show (256 : Nat) = 2 ^ r * 2 ^ (8 - r) from by rw [← Nat.pow_add, show r + (8 - r) = 8 from by omega], Nat.mod_mul_right_div_self]
/-- What has been got, or-ed with the next byte's bits, as the machine reckons it. -/
theorem get_or (V A G r b : Nat) (hG : G < 64) (hb : b / 2 ^ r = V / 2 ^ (A + G) % 2 ^ (8 - r)) :
    (V / 2 ^ A % 2 ^ G % 18446744073709551616) ||| (b / 2 ^ r * 2 ^ G % 18446744073709551616) = V / 2 ^ A % 2 ^ (G + (8 - r)) % 18446744073709551616 := by
  have hM : (18446744073709551616 : Nat) = 2 ^ G * 2 ^ (64 - G) := by
    rw [← Nat.pow_add, show G + (64 - G) = 64 from by omega]
  generalize hY : V / 2 ^ A = Y
  have hYd : V / 2 ^ (A + G) = Y / 2 ^ G := by rw [Nat.pow_add, ← Nat.div_div_eq_div_mul, hY]
  rw [hYd] at hb
  rw [hb]
  generalize 8 - r = d
  have hlt : Y % 2 ^ G < 2 ^ G := Nat.mod_lt _ (Nat.two_pow_pos G)
  have h1 : Y % 2 ^ (G + d) = Y % 2 ^ G + 2 ^ G * (Y / 2 ^ G % 2 ^ d) := by rw [Nat.pow_add, Nat.mod_mul]
  generalize Y / 2 ^ G % 2 ^ d = q at h1 ⊢
  rw [h1]
  generalize Y % 2 ^ G = x at hlt ⊢
  have hj : ∀ z, x ||| 2 ^ G * z = x + 2 ^ G * z := fun z => by rw [Nat.or_comm, nat_join G _ _ (Nat.mul_mod_right _ _) hlt, Nat.add_comm]
  have hP := Nat.two_pow_pos (64 - G)
  have hG0 := Nat.two_pow_pos G
  rw [hM]
  generalize 2 ^ (64 - G) = M at *
  generalize 2 ^ G = P at *
  have e1 : x % (P * M) = x := Nat.mod_eq_of_lt (Nat.lt_of_lt_of_le hlt (Nat.le_mul_of_pos_right _ hP))
  have e2 : q * P % (P * M) = P * (q % M) := by rw [Nat.mul_comm q, Nat.mul_mod_mul_left]
  have e3 : (x + P * q) % (P * M) = x + P * (q % M) := by
    rw [Nat.mod_mul, Nat.add_mul_mod_self_left, Nat.mod_eq_of_lt hlt, Nat.add_mul_div_left _ _ hG0, Nat.div_eq_of_lt hlt, Nat.zero_add]
  rw [e1, e2, e3]
  exact hj _
theorem get_done (Y G W : Nat) (hW : W ≤ 63) (hG : W ≤ G) : (Y % 2 ^ G % 18446744073709551616) &&& (2 ^ W - 1) = Y % 2 ^ W := by
  rw [Nat.and_two_pow_sub_one_eq_mod, Nat.mod_mod_of_dvd _ (by
    rw [show (18446744073709551616 : Nat) = 2 ^ 64 from rfl]
    exact Nat.pow_dvd_pow 2 (by omega)), Nat.mod_mod_of_dvd _ (Nat.pow_dvd_pow 2 hG)]
end Go.Proofs.Ytokdjaljeckghaa.Bp
