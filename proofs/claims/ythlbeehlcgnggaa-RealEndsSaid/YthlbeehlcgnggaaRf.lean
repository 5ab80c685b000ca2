/-
  Floats as what their bits say, plainly: the order of two words; what a quotient of two whole numbers is.
-/
import Derived.Laws.FloatArith
namespace Go.Proofs.Ythlbeehlcgnggaa
namespace Rf

/-- How far a word is from 0. -/
def rank (b : Nat) : Nat := b % 9223372036854775808
/-- Is it no number? -/
def none (b : Nat) : Bool := decide (9218868437227405312 < rank b)
/-- Is its sign set? -/
def neg (b : Nat) : Bool := b / 9223372036854775808 % 2 == 1
/-- A whole number with a sign. -/
def sv (s : Bool) (n : Nat) : Int := if s then -(n : Int) else (n : Int)
def key (b : Nat) : Int := sv (neg b) (rank b)
def less (a b : Nat) : Bool := !none a && (none b || decide (key a < key b))

/-- What a rung is worth, in the least number's parts. -/
def val (r : Nat) : Nat := if r < 4503599627370496 then r else (4503599627370496 + r % 4503599627370496) * 2 ^ (r / 4503599627370496 - 1)

theorem val_lt {r s : Nat} (h : r < s) : val r < val s := by
  unfold val
  by_cases hs : s < 4503599627370496
  · rw [if_pos hs, if_pos (by omega)]
    exact h
  · rw [if_neg hs]
    have hp : 0 < 2 ^ (s / 4503599627370496 - 1) := Nat.two_pow_pos _
    by_cases hr : r < 4503599627370496
    · rw [if_pos hr]
      calc r < 4503599627370496 := hr
        _ ≤ (4503599627370496 + s % 4503599627370496) * 1 := by omega
        _ ≤ _ := Nat.mul_le_mul_left _ hp
    · rw [if_neg hr]
      by_cases hq : r / 4503599627370496 = s / 4503599627370496
      · rw [hq]
        exact Nat.mul_lt_mul_of_pos_right (by omega) hp
      · have hlt : r / 4503599627370496 < s / 4503599627370496 := by omega
        obtain ⟨d, hd⟩ : ∃ d, s / 4503599627370496 - 1 = r / 4503599627370496 - 1 + 1 + d := ⟨s / 4503599627370496 - 1 - (r / 4503599627370496 - 1) - 1, by omega⟩
        rw [hd]
        generalize r / 4503599627370496 - 1 = e
        have h1 : 0 < 2 ^ e := Nat.two_pow_pos _
        have h2 : 0 < 2 ^ d := Nat.two_pow_pos _
        have h3 : 2 ^ (e + 1 + d) = 2 ^ e * 2 * 2 ^ d := by rw [Nat.pow_add, Nat.pow_succ]
        rw [h3]
        calc (4503599627370496 + r % 4503599627370496) * 2 ^ e < (4503599627370496 * 2) * 2 ^ e := Nat.mul_lt_mul_of_pos_right (by omega) h1
          _ = 4503599627370496 * (2 ^ e * 2 * 1) := by rw [Nat.mul_one, Nat.mul_assoc, Nat.mul_comm 2]
          _ ≤ 4503599627370496 * (2 ^ e * 2 * 2 ^ d) := Nat.mul_le_mul_left _ (Nat.mul_le_mul_left _ h2)
          _ ≤ _ := Nat.mul_le_mul_right _ (by omega)

theorem val_zero : val 0 = 0 := rfl

theorem sv_val (s t : Bool) (r r' : Nat) : sv s (val r) < sv t (val r') ↔ sv s r < sv t r' := by
  have h0 := val_zero
  have h1 : r < r' → val r < val r' := val_lt
  have h2 : r' < r → val r' < val r := val_lt
  have h3 : r = r' → val r = val r' := fun h => by rw [h]
  have h4 : 0 < r → 0 < val r := fun h => by have := val_lt h; omega
  have h5 : 0 < r' → 0 < val r' := fun h => by have := val_lt h; omega
  have h6 : r = 0 → val r = 0 := fun h => by rw [h]; rfl
  have h7 : r' = 0 → val r' = 0 := fun h => by rw [h]; rfl
  cases s <;> cases t <;> simp only [sv] <;> (simp; try omega)

theorem sv_shift (s : Bool) (m k n v : Nat) (h : m * 2 ^ (k + n) = v) : Ieee.signed s m k * ((2 ^ n : Nat) : Int) = sv s v := by
  unfold Ieee.signed sv
  have h1 : ((m <<< k : Nat) : Int) * ((2 ^ n : Nat) : Int) = (v : Int) := by
    rw [← h, Nat.shiftLeft_eq, Nat.pow_add]
    push_cast
    rw [Int.mul_assoc]
  cases s
  · simpa using h1
  · simp only [if_true]
    rw [Int.neg_mul, h1]

theorem read_num (x : Nat) (h : rank x < 9218868437227405312) : ∃ (m k : Nat), Ieee.double.read x = .number (neg x) m (-1074 + (k : Int)) ∧ m * 2 ^ k = val (rank x) := by
  have e1 : Ieee.double.signWeight = 9223372036854775808 := by decide
  have e2 : Ieee.double.binade = 4503599627370496 := by decide
  have e3 : Ieee.double.infRung = 9218868437227405312 := by decide
  have e4 : Ieee.double.leastPlace = -1074 := by decide
  unfold Ieee.Format.read
  rw [e1, e2, e3, e4]
  change ∃ (m k : Nat), (if rank x < 4503599627370496 then _ else if rank x < 9218868437227405312 then _ else _) = _ ∧ _
  unfold val
  by_cases hb : rank x < 4503599627370496
  · rw [if_pos hb, if_pos hb]
    exact ⟨rank x, 0, rfl, by simp⟩
  · rw [if_neg hb, if_pos h, if_neg hb]
    exact ⟨_, _, rfl, rfl⟩

theorem read_inf (x : Nat) (h : rank x = 9218868437227405312) : Ieee.double.read x = .infinity (neg x) := by
  have e1 : Ieee.double.signWeight = 9223372036854775808 := by decide
  have e2 : Ieee.double.binade = 4503599627370496 := by decide
  have e3 : Ieee.double.infRung = 9218868437227405312 := by decide
  unfold Ieee.Format.read
  rw [e1, e2, e3]
  change (if rank x < 4503599627370496 then _ else if rank x < 9218868437227405312 then _ else if rank x = 9218868437227405312 then _ else _) = _
  rw [if_neg (by omega), if_neg (by omega), if_pos h]
  rfl

theorem read_nan (x : Nat) (h : 9218868437227405312 < rank x) : ∃ s t, Ieee.double.read x = .nan s t := by
  have e1 : Ieee.double.signWeight = 9223372036854775808 := by decide
  have e2 : Ieee.double.binade = 4503599627370496 := by decide
  have e3 : Ieee.double.infRung = 9218868437227405312 := by decide
  unfold Ieee.Format.read
  rw [e1, e2, e3]
  change ∃ s t, (if rank x < 4503599627370496 then _ else if rank x < 9218868437227405312 then _ else if rank x = 9218868437227405312 then _ else _) = _
  rw [if_neg (by omega), if_neg (by omega), if_neg (by omega)]
  exact ⟨_, _, rfl⟩

theorem order_none (x y : Nat) (h : none x = true ∨ none y = true) : Ieee.double.order x y = .none := by
  unfold Ieee.Format.order
  rcases h with h | h
  · obtain ⟨s, t, e⟩ := read_nan x (by simpa [none] using h)
    rw [e]
    rfl
  · obtain ⟨s, t, e⟩ := read_nan y (by simpa [none] using h)
    rw [e]
    cases Ieee.double.read x <;> rfl

theorem compare_eq (a b : Int) : compare a b = if a < b then .lt else if a = b then .eq else .gt := rfl

theorem order_some (x y : Nat) (hx : none x = false) (hy : none y = false) : Ieee.double.order x y = some (if key x < key y then .lt else if key x = key y then .eq else .gt) := by
  have hx : rank x ≤ 9218868437227405312 := by simpa [none] using hx
  have hy : rank y ≤ 9218868437227405312 := by simpa [none] using hy
  unfold Ieee.Format.order key
  by_cases ix : rank x = 9218868437227405312 <;> by_cases iy : rank y = 9218868437227405312
  · rw [read_inf x ix, read_inf y iy, ix, iy]
    cases neg x <;> cases neg y <;> decide
  · obtain ⟨m, k, e, _⟩ := read_num y (by omega)
    rw [read_inf x ix, e, ix]
    cases neg x <;> cases neg y <;> simp [Ieee.Datum.order, sv] <;> (repeat' split) <;> first | rfl | omega
  · obtain ⟨m, k, e, _⟩ := read_num x (by omega)
    rw [read_inf y iy, e, iy]
    cases neg x <;> cases neg y <;> simp [Ieee.Datum.order, sv] <;> (repeat' split) <;> first | rfl | omega
  · obtain ⟨m, k, e, hv⟩ := read_num x (by omega)
    obtain ⟨n, j, e', hv'⟩ := read_num y (by omega)
    rw [e, e']
    simp only [Ieee.Datum.order]
    obtain ⟨c, hc⟩ : ∃ c : Nat, c = min k j := ⟨_, rfl⟩
    have hb : min (-1074 + (k : Int)) (-1074 + (j : Int)) = -1074 + (c : Int) := by omega
    rw [hb]
    have h1 : (-1074 + (k : Int) - (-1074 + (c : Int))).toNat = k - c := by omega
    have h2 : (-1074 + (j : Int) - (-1074 + (c : Int))).toNat = j - c := by omega
    rw [h1, h2]
    have s1 := sv_shift (neg x) m (k - c) c (val (rank x)) (by rw [← hv]; congr 2; omega)
    have s2 := sv_shift (neg y) n (j - c) c (val (rank y)) (by rw [← hv']; congr 2; omega)
    have hp : (0 : Int) < ((2 ^ c : Nat) : Int) := by exact_mod_cast Nat.two_pow_pos c
    have l1 := sv_val (neg x) (neg y) (rank x) (rank y)
    have l2 := sv_val (neg y) (neg x) (rank y) (rank x)
    rw [← s1, ← s2, Int.mul_lt_mul_right hp] at l1
    rw [← s1, ← s2, Int.mul_lt_mul_right hp] at l2
    rw [compare_eq]
    generalize Ieee.signed (neg x) m (k - c) = p at *
    generalize Ieee.signed (neg y) n (j - c) = q at *
    generalize sv (neg x) (rank x) = p' at *
    generalize sv (neg y) (rank y) = q' at *
    congr 1
    have l3 : p = q ↔ p' = q' := by omega
    simp only [l1, l3]

/-- '<' of two floats. -/
theorem lss_eq (x y : Nat) : (Ieee.double.order x y == some .lt) = (!none x && !none y && decide (key x < key y)) := by
  by_cases hx : none x = true
  · rw [order_none x y (.inl hx), hx]; rfl
  by_cases hy : none y = true
  · rw [order_none x y (.inr hy), hy]; cases none x <;> rfl
  have hx : none x = false := by simpa using hx
  have hy : none y = false := by simpa using hy
  rw [order_some x y hx hy, hx, hy]
  by_cases h : key x < key y
  · simp [h]
  · by_cases h' : key x = key y <;> simp [h, h']

/-- A float is not itself just if it is no number. -/
theorem self_eq (x : Nat) : (Ieee.double.order x x != some .eq) = none x := by
  by_cases hx : none x = true
  · rw [order_none x x (.inl hx), hx]; rfl
  have hx : none x = false := by simpa using hx
  rw [order_some x x hx hx, hx]
  simp

end Rf
end Go.Proofs.Ythlbeehlcgnggaa
