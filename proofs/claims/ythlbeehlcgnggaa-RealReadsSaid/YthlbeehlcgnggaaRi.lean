/-
  The digits of a whole number; texts of digits as numbers; the order of quotients: plainly.
-/
import Derived.Test.YthlbeehlcgnggaaRk
import Derived.Test.YthlbeehlcgnggaaRp
namespace Go.Proofs.Ythlbeehlcgnggaa
open Go.RowKit
namespace Rf

/-- The digits of a number. -/
def dgs (n : Nat) : List UInt8 := (if 10 ≤ n then dgs (n / 10) else []) ++ [UInt8.ofNat (48 + n % 10)]
termination_by n
decreasing_by omega

theorem dgs_eq (n : Nat) : dgs n = (if 10 ≤ n then dgs (n / 10) else []) ++ [UInt8.ofNat (48 + n % 10)] := by
  rw [dgs]
theorem digit_nat (n : Nat) : (UInt8.ofNat (48 + n % 10)).toNat = 48 + n % 10 := by
  rw [UInt8.toNat_ofNat']
  omega
theorem dgs_all (n : Nat) : (dgs n).all isD = true := by
  induction n using Nat.strongRecOn with
  | _ n ih =>
    rw [dgs_eq, List.all_append]
    have h1 : (if 10 ≤ n then dgs (n / 10) else []).all isD = true := by
      by_cases h : 10 ≤ n
      · rw [if_pos h]
        exact ih _ (by omega)
      · rw [if_neg h]
        rfl
    rw [h1]
    have h2 := digit_nat n
    simp only [Bool.true_and, List.all_cons, List.all_nil, Bool.and_true]
    exact decide_eq_true (by omega)
theorem dgs_dec (n : Nat) : dec 0 (dgs n) = n := by
  induction n using Nat.strongRecOn with
  | _ n ih =>
    rw [dgs_eq, dec_append]
    have h2 := digit_nat n
    change 10 * dec 0 (if 10 ≤ n then dgs (n / 10) else []) + ((UInt8.ofNat (48 + n % 10)).toNat - 48) = n
    rw [h2]
    by_cases h : 10 ≤ n
    · rw [if_pos h, ih _ (by omega)]
      omega
    · rw [if_neg h]
      change 10 * 0 + _ = _
      omega
theorem dgs_pos (n : Nat) : 0 < (dgs n).length := by
  rw [dgs_eq, List.length_append]
  simp
theorem dgs_len (k n : Nat) (h0 : 0 < k) (h : n < 10 ^ k) : (dgs n).length ≤ k := by
  induction k generalizing n with
  | zero => omega
  | succ k ih =>
    rw [dgs_eq, List.length_append]
    by_cases hn : 10 ≤ n
    · rw [if_pos hn]
      rw [Nat.pow_succ] at h
      by_cases hk : k = 0
      · subst hk
        omega
      · have := ih (n / 10) (by omega) (by omega)
        simp
        omega
    · rw [if_neg hn]
      simp

theorem dec_zeros (m : Nat) (l : List UInt8) : dec 0 (List.replicate m 48 ++ l) = dec 0 l := by
  induction m with
  | zero => rfl
  | succ m ih => exact ih
theorem zeros_all (m : Nat) : (List.replicate m (48 : UInt8)).all isD = true := by
  rw [List.all_eq_true]
  intro x hx
  rw [List.eq_of_mem_replicate hx]
  rfl

theorem digit_ne (c : UInt8) (h : isD c = true) : c ≠ 45 ∧ c ≠ 105 ∧ c ≠ 110 := by
  refine ⟨?_, ?_, ?_⟩ <;> (rintro rfl; exact absurd h (by decide))
theorem head_digit (D r : List UInt8) (h0 : 0 < D.length) (h : D.all isD = true) : ∃ c t, D ++ r = c :: t ∧ c ≠ 45 ∧ c ≠ 105 ∧ c ≠ 110 := by
  cases D with
  | nil => simp at h0
  | cons c t =>
    rw [List.all_cons, Bool.and_eq_true] at h
    obtain ⟨h1, h2, h3⟩ := digit_ne c h.1
    exact ⟨c, t ++ r, rfl, h1, h2, h3⟩
theorem number_of (D r : List UInt8) (h0 : 0 < D.length) (h : D.all isD = true) : number (D ++ r) = (size (D ++ r)).map (fun p => ratio p.1 p.2) ∧ parse (D ++ r) = number (D ++ r) ∧ parse (45 :: (D ++ r)) = (number (D ++ r)).map (· + 9223372036854775808) := by
  obtain ⟨c, t, e, h1, h2, h3⟩ := head_digit D r h0 h
  rw [e]
  refine ⟨?_, ?_, ?_⟩
  · unfold number
    rw [if_neg (by rintro e; rw [List.cons.injEq] at e; exact h2 e.1)]
  · unfold parse
    rw [if_neg (by rintro e; rw [List.cons.injEq] at e; exact h3 e.1), List.head?_cons, if_neg (by rintro e; exact h1 (Option.some.inj e))]
  · unfold parse
    rw [if_neg (by rintro e; rw [List.cons.injEq] at e; exact absurd e.1 (by decide)), List.head?_cons, if_pos rfl, List.tail_cons]
theorem size_point (D P : List UInt8) (h0 : 0 < D.length) (h1 : D.length ≤ 12) (h : D.all isD = true) (p0 : 0 < P.length) (p1 : P.length ≤ 3) (hp : P.all isD = true) : size (D ++ 46 :: P) = some (dec 0 (D ++ P), 10 ^ P.length) := by
  unfold size
  rw [cut_digits D _ h]
  simp only [cut46, if_true, List.append_nil]
  rw [if_pos]
  unfold areD
  rw [h, hp, decide_eq_true ⟨h0, h1⟩, decide_eq_true ⟨p0, p1⟩]
  rfl
theorem size_whole (D : List UInt8) (h0 : 0 < D.length) (h1 : D.length ≤ 12) (h : D.all isD = true) : size D = some (dec 0 D, 1) := by
  have h2 := cut_digits D [] h
  rw [List.append_nil] at h2
  unfold size
  rw [h2]
  simp only [cut46, List.append_nil]
  rw [if_pos]
  · simp
  · unfold areD
    rw [h, decide_eq_true ⟨h0, h1⟩]
    rfl

/-- Both moved up alike: the same quotient. -/
theorem ratio_mul (a b c : Nat) (hb : 0 < b) (hc : 0 < c) (hla : a * c < 9007199254740992) : ratio (a * c) (b * c) = ratio a b := by
  have hac : a ≤ a * c := Nat.le_mul_of_pos_right a hc
  by_cases ha : a = 0
  · subst ha
    unfold ratio
    simp
  have hac0 : ¬ a * c = 0 := Nat.mul_ne_zero ha (by omega)
  obtain ⟨s1, s2⟩ := scale_spec a b (by omega) hb (by omega)
  have e1 : a * c * 2 ^ scale a b = a * 2 ^ scale a b * c := by rw [Nat.mul_assoc, Nat.mul_comm c, ← Nat.mul_assoc]
  have hs : scale (a * c) (b * c) = scale a b := by
    apply scale_is _ _ _ (by omega) (Nat.mul_pos hb hc) hla
    · rw [e1, ← Nat.mul_assoc]
      exact Nat.mul_le_mul_right _ s1
    · rw [e1, ← Nat.mul_assoc]
      exact Nat.mul_lt_mul_of_pos_right s2 hc
  unfold ratio
  rw [if_neg hac0, if_neg ha, hs, e1]
  congr 1
  generalize a * 2 ^ scale a b = A
  unfold rnd
  rw [Nat.mul_div_mul_right _ _ hc, Nat.mul_mod_mul_right]
  congr 1
  have h1 : b * c < 2 * (A % b * c) ↔ b < 2 * (A % b) := by
    rw [← Nat.mul_assoc]
    exact Nat.mul_lt_mul_right hc
  have h2 : 2 * (A % b * c) = b * c ↔ 2 * (A % b) = b := by
    rw [← Nat.mul_assoc]
    exact Nat.mul_left_inj (by omega)
  simp only [h1, h2]

/-- Thousandths below 2^43: the greater has the greater quotient. -/
theorem ratio_lt (A B : Nat) (h : A < B) (hB : B < 8796093022208) : ratio A 1000 < ratio B 1000 := by
  have b1 := scale_spec B 1000 (by omega) (by decide) (by omega)
  have b2 := scale_le B 1000 (by decide)
  have b3 := le_rnd (B * 2 ^ scale B 1000) 1000 4503599627370496 (by decide) b1.1
  have hB0 : ¬ B = 0 := by omega
  have eB : ratio B 1000 = (1074 - scale B 1000) * 4503599627370496 + rnd (B * 2 ^ scale B 1000) 1000 := by unfold ratio; rw [if_neg hB0]
  rw [eB]
  by_cases hA0 : A = 0
  · subst hA0
    have : ratio 0 1000 = 0 := rfl
    rw [this]
    omega
  have a1 := scale_spec A 1000 (by omega) (by decide) (by omega)
  have a2 := scale_le A 1000 (by decide)
  have a3 := rnd_le (A * 2 ^ scale A 1000) 1000 9007199254740992 (by decide) a1.2
  have eA : ratio A 1000 = (1074 - scale A 1000) * 4503599627370496 + rnd (A * 2 ^ scale A 1000) 1000 := by unfold ratio; rw [if_neg hA0]
  rw [eA]
  have hun := scale_uniq A 1000 (scale A 1000) (scale B 1000) a1.1
  generalize hs : scale A 1000 = s at *
  generalize ht : scale B 1000 = t at *
  clear eA eB hs ht hA0 hB0
  have hAB : A * 2 ^ s + 2 ^ s ≤ B * 2 ^ s := by
    calc A * 2 ^ s + 2 ^ s = (A + 1) * 2 ^ s := by rw [Nat.add_mul, Nat.one_mul]
      _ ≤ _ := Nat.mul_le_mul_right _ h
  have hp : 511999 < 2 ^ s := by
    rcases Nat.lt_or_ge 511999 (2 ^ s) with h1 | h1
    · exact h1
    · exfalso
      have h2 : A * 2 ^ s ≤ 8796093022208 * 511999 := Nat.mul_le_mul (by omega) h1
      have := a1.1
      omega
  have hts : ¬ s < t := fun hst => by
    refine hun ?_ hst
    exact Nat.lt_of_le_of_lt (Nat.mul_le_mul_right _ (by omega)) b1.2
  clear hun
  by_cases hst : s = t
  · subst hst
    have h1 : rnd (A * 2 ^ s) 1000 < rnd (B * 2 ^ s) 1000 := by
      clear a3 b3
      generalize A * 2 ^ s = x at *
      generalize B * 2 ^ s = y at *
      generalize 2 ^ s = z at *
      unfold rnd
      have h2 : x / 1000 + 2 ≤ y / 1000 := by omega
      split <;> split <;> omega
    omega
  · obtain ⟨d, rfl⟩ : ∃ d, s = t + 1 + d := ⟨s - t - 1, by omega⟩
    by_cases hd : d = 0
    · subst hd
      rw [Nat.add_zero] at *
      have e2 : B * 2 ^ (t + 1) = B * 2 ^ t * 2 := by rw [Nat.pow_succ, Nat.mul_assoc]
      rw [e2] at hAB
      have h1 : rnd (A * 2 ^ (t + 1)) 1000 < 9007199254740992 ∨ 4503599627370496 < rnd (B * 2 ^ t) 1000 := by
        have a12 := a1.2
        clear a3 b3 a1 e2
        generalize A * 2 ^ (t + 1) = x at *
        generalize B * 2 ^ t = y at *
        generalize 2 ^ (t + 1) = z at *
        by_cases hx : x < 9007199254740991000
        · left
          unfold rnd
          split <;> omega
        · right
          unfold rnd
          have : 4503599627370497 ≤ y / 1000 := by omega
          omega
      generalize rnd (A * 2 ^ (t + 1)) 1000 = R at *
      generalize rnd (B * 2 ^ t) 1000 = Q at *
      clear a1 b1 hAB e2 hp
      omega
    · generalize rnd (A * 2 ^ (t + 1 + d)) 1000 = R at *
      generalize rnd (B * 2 ^ t) 1000 = Q at *
      clear a1 b1 hAB hp
      omega

/-- The order of words that are above 0. -/
theorem less_up (a b : Nat) (ha : a ≤ 9218868437227405312) (hb : b ≤ 9218868437227405312) : less a b = decide (a < b) := by
  have n1 : none a = false := by unfold none rank; exact decide_eq_false (by omega)
  have n2 : none b = false := by unfold none rank; exact decide_eq_false (by omega)
  have k1 : key a = (a : Int) := by
    have := key_cases a (by omega)
    omega
  have k2 : key b = (b : Int) := by
    have := key_cases b (by omega)
    omega
  unfold less
  rw [n1, n2, k1, k2]
  simp

end Rf
end Go.Proofs.Ythlbeehlcgnggaa
