/-
  The given package: the quotient of two whole numbers, rounded, by long division.
-/
import Derived.Test.YthlbeehlcgnggaaRz
namespace Go.Proofs.Ythlbeehlcgnggaa
open Go.RowKit

/-- What the division's steps make: the quotient and the rest of the number moved up. -/
theorem Rf.step_div (A b q r : Nat) (hb : 0 < b) (hq : q = A / b) (hr : r = A % b) : (b ≤ 2 * r → A * 2 / b = 2 * q + 1 ∧ A * 2 % b = 2 * r - b) ∧ (2 * r < b → A * 2 / b = 2 * q ∧ A * 2 % b = 2 * r) := by
  have e1 := Nat.div_add_mod A b
  have e2 := Nat.mod_lt A hb
  rw [← hq, ← hr] at e1
  rw [← hr] at e2
  constructor
  · intro h
    have h1 : A * 2 = (2 * r - b) + b * (2 * q + 1) := by
      rw [Nat.mul_add, Nat.mul_one, Nat.mul_left_comm]
      omega
    rw [h1, Nat.add_mul_div_left _ _ hb, Nat.add_mul_mod_self_left, Nat.div_eq_of_lt (by omega), Nat.mod_eq_of_lt (by omega)]
    omega
  · intro h
    have h1 : A * 2 = 2 * r + b * (2 * q) := by
      rw [Nat.mul_left_comm]
      omega
    rw [h1, Nat.add_mul_div_left _ _ hb, Nat.add_mul_mod_self_left, Nat.div_eq_of_lt (by omega), Nat.mod_eq_of_lt (by omega)]
    omega
/-- How the last step's quotient is rounded. -/
theorem Rf.rnd_half (A b q r : Nat) (hb : 0 < b) (hq : q = A * 2 / b) (hr : r = A * 2 % b) : Rf.rnd A b = q / 2 + if q % 2 = 1 ∧ (0 < r ∨ q / 2 % 2 = 1) then 1 else 0 := by
  obtain ⟨h1, h2⟩ := Rf.step_div A b _ _ hb rfl rfl
  have e2 := Nat.mod_lt A hb
  unfold Rf.rnd
  by_cases h : b ≤ 2 * (A % b)
  · obtain ⟨h3, h4⟩ := h1 h
    rw [← hq] at h3
    rw [← hr] at h4
    have h5 : q / 2 = A / b := by omega
    have h6 : q % 2 = 1 := by omega
    rw [h5, h6]
    congr 1
    by_cases hz : 0 < r
    · rw [if_pos (by omega), if_pos ⟨rfl, .inl hz⟩]
    · by_cases ho : A / b % 2 = 1
      · rw [if_pos (by omega), if_pos ⟨rfl, .inr ho⟩]
      · rw [if_neg (by omega), if_neg (by omega)]
  · obtain ⟨h3, h4⟩ := h2 (by omega)
    rw [← hq] at h3
    have h5 : q / 2 = A / b := by omega
    have h6 : q % 2 = 0 := by omega
    rw [h5, h6]
    congr 1
    rw [if_neg (by omega), if_neg (by omega)]

set_option maxRecDepth 100000 in
set_option maxHeartbeats 4000000 in
theorem ratio_any (a b : Nat) (hla : a < 9007199254740992) (hb : 0 < b) (hlb : b ≤ 1000) (w : World) :
    Calls Try.prog 28 #[.int .u64 a, .int .u64 b] w fun e w' => e = .returned (.int .u64 (Rf.ratio a b : Nat)) ∧ ∃ n, w' = w.drewN n := by
  by_cases h0 : a = 0
  · subst h0
    go_enter Try.func28, Try.ntmps28
    go_wp2_with fail
    go_ret
    exact ⟨rfl, 0, rfl⟩
  have ha : 0 < a := by omega
  obtain ⟨s1, s2⟩ := Rf.scale_spec a b ha hb hla
  have hun := Rf.scale_uniq a b (Rf.scale a b)
  have s3 := Rf.scale_le a b (by omega)
  have hR : Rf.ratio a b = (1074 - Rf.scale a b) * 4503599627370496 + Rf.rnd (a * 2 ^ Rf.scale a b) b := by unfold Rf.ratio; rw [if_neg h0]
  have hr1 := Rf.rnd_le (a * 2 ^ Rf.scale a b) b 9007199254740992 hb s2
  have hr2 := Rf.le_rnd (a * 2 ^ Rf.scale a b) b 4503599627370496 hb s1
  have hh := Rf.rnd_half (a * 2 ^ Rf.scale a b) b
  rw [hR]
  clear hR
  generalize Rf.rnd (a * 2 ^ Rf.scale a b) b = R at *
  generalize Rf.scale a b = S at *
  have HH := Lib.hid hh
  have HU := Lib.hid (fun t => hun t s1)
  have HS1 := Lib.hid s1
  have HS2 := Lib.hid s2
  clear hh hun s1 s2
  have q0 : ((a : Int) == 0) = false := beq_eq_false_iff_ne.2 (by omega)
  have q1 : ¬ (b : Int) = 0 := by omega
  have q2 : ¬ b = 0 := by omega
  go_enter Try.func28, Try.ntmps28
  have w1 : IntKind.u64.wrap ((a : Int) / (b : Int)) = ((a / b : Nat) : Int) := by
    have h : ∀ D : Nat, D ≤ a → IntKind.u64.wrap ((D : Nat) : Int) = (D : Int) := fun D h => IntWalk.u64_in _ (by omega)
    rw [← Int.natCast_ediv]
    exact h _ (Nat.div_le_self a b)
  have w2 : (a : Int) % (b : Int) = ((a % b : Nat) : Int) := (Int.natCast_emod a b).symm
  have W1 := Lib.hid w1
  have W2 := Lib.hid w2
  have m1 : a / b < 18014398509481984 := by have h := Nat.div_le_self a b; omega
  have m2 : a % b < b := Nat.mod_lt a hb
  have M1 := Lib.hid m1
  have M2 := Lib.hid m2
  clear w1 w2 m1 m2 hla
  go_wp2_with fail
  go_quiet (fail)
  go_wp2_with fail
  go_loopg [5, 6, 7] (S + 1) (fun g vq vr ve wx => ∃ k q r : Nat, k ≤ S + 1 ∧ g = S + 1 - k ∧ vq = .int .u64 q ∧ vr = .int .u64 r ∧ ve = .int .i64 (-(k : Int)) ∧ Hid (q = a * 2 ^ k / b) ∧ Hid (r = a * 2 ^ k % b) ∧ q < 18014398509481984 ∧ r < b ∧ wx = w.drewN nq)
  case atStart => exact ⟨0, a / b, a % b, by omega, rfl, by rw [W1.out], by rw [W2.out], rfl, by show _ = _; rw [Nat.pow_zero, Nat.mul_one], by show _ = _; rw [Nat.pow_zero, Nat.mul_one], M1.out, M2.out, rfl⟩
  case round =>
    obtain ⟨k, q, r, hk, rfl, rfl, rfl, rfl, hq, hr, hqb, hrb, rfl⟩ := hrel
    clear W1 W2 M1 M2
    obtain ⟨t1, t2⟩ := Rf.step_div (a * 2 ^ k) b q r hb hq.out hr.out
    have t3 : a * 2 ^ (k + 1) = a * 2 ^ k * 2 := by rw [Nat.pow_succ, Nat.mul_assoc]
    rw [← t3] at t1 t2
    have T1 := Lib.hid t1
    have T2 := Lib.hid t2
    clear t1 t2 t3
    by_cases hqs : q < 9007199254740992
    · have hks : k ≤ S := by
        have h1 : a * 2 ^ k < 9007199254740992 * b := (Nat.div_lt_iff_lt_mul hb).1 (by rw [← hq.out]; exact hqs)
        exact Nat.le_of_not_lt (HU.out k h1)
      by_cases hrs : b ≤ 2 * r
      · have H1 : Hid (2 * q + 1 = a * 2 ^ (k + 1) / b) := (T1.out hrs).1.symm
        have H2 : Hid (2 * r - b = a * 2 ^ (k + 1) % b) := (T1.out hrs).2.symm
        clear T1 T2 hq hr HH HU HS1 HS2
        have r1 : (b : Int) ≤ 2 * (r : Int) := by omega
        have r2 : (q : Int) < 9007199254740992 := by omega
        clear hqs hr1 hr2
        go_wp2_with fail
        go_roundg (S + 1 - (k + 1))
        case rel => exact ⟨k + 1, 2 * q + 1, 2 * r - b, by omega, rfl, by go_num, by go_num, by go_num, H1, H2, by omega, by omega, rfl⟩
        case measure => omega
      · have H1 : Hid (2 * q = a * 2 ^ (k + 1) / b) := (T2.out (by omega)).1.symm
        have H2 : Hid (2 * r = a * 2 ^ (k + 1) % b) := (T2.out (by omega)).2.symm
        clear T1 T2 hq hr HH HU HS1 HS2
        have r1 : ¬ (b : Int) ≤ 2 * (r : Int) := by omega
        have r2 : (q : Int) < 9007199254740992 := by omega
        clear hqs hr1 hr2
        go_wp2_with fail
        go_roundg (S + 1 - (k + 1))
        case rel => exact ⟨k + 1, 2 * q, 2 * r, by omega, rfl, by go_num, by go_num, by go_num, H1, H2, by omega, by omega, rfl⟩
        case measure => omega
    · have hkS : k = S + 1 := by
        rcases Nat.lt_or_ge S k with h | h
        · omega
        · exfalso
          have h1 : 2 ^ k ≤ 2 ^ S := Nat.pow_le_pow_right (by decide) h
          have h2 : a * 2 ^ k ≤ a * 2 ^ S := Nat.mul_le_mul_left _ h1
          have h3 := HS2.out
          exact hqs (by rw [hq.out]; exact (Nat.div_lt_iff_lt_mul hb).2 (by omega))
      subst hkS
      have hE : R = q / 2 + if q % 2 = 1 ∧ (0 < r ∨ q / 2 % 2 = 1) then 1 else 0 := by
        have e : a * 2 ^ (S + 1) = a * 2 ^ S * 2 := by rw [Nat.pow_succ, Nat.mul_assoc]
        exact HH.out q r hb (by rw [← e]; exact hq.out) (by rw [← e]; exact hr.out)
      have i0 : ¬ (q : Int) < 9007199254740992 := by omega
      have HE := Lib.hid hE
      have HB := Lib.hid (And.intro hr1 hr2)
      clear HH HU HS1 HS2 T1 T2 hq hr hr1 hr2 hqs hE
      obtain ⟨m, hm⟩ : ∃ m, q / 2 = m := ⟨_, rfl⟩
      have HM := Lib.hid hm
      have b1 : (m : Int) < 9007199254740992 := by omega
      have b2 : (4503599627370496 : Int) ≤ (m : Int) := by omega
      have e1 : (q : Int) / 2 = (m : Int) := by omega
      clear hm
      have f1 : (S : Int) ≤ 62 := by omega
      have hcase : (((q : Int) % 2 = 1 ∧ 0 < r) ∧ R = m + 1) ∨ (((q : Int) % 2 = 1 ∧ r = 0 ∧ (m : Int) % 2 = 1) ∧ R = m + 1) ∨ (((q : Int) % 2 = 1 ∧ r = 0 ∧ (m : Int) % 2 = 0) ∧ R = m) ∨ ((q : Int) % 2 = 0 ∧ R = m) := by
        have h := HE.out
        rw [HM.out] at h
        by_cases c1 : q % 2 = 1
        · by_cases c2 : 0 < r
          · rw [if_pos ⟨c1, .inl c2⟩] at h
            exact .inl ⟨⟨by omega, c2⟩, h⟩
          · by_cases c3 : m % 2 = 1
            · rw [if_pos ⟨c1, .inr c3⟩] at h
              exact .inr (.inl ⟨⟨by omega, by omega, by omega⟩, h⟩)
            · rw [if_neg (by omega)] at h
              exact .inr (.inr (.inl ⟨⟨by omega, by omega, by omega⟩, h⟩))
        · rw [if_neg (by omega)] at h
          exact .inr (.inr (.inr ⟨by omega, h⟩))
      clear HE HM
      rcases hcase with ⟨⟨i1, i2⟩, hR⟩ | ⟨⟨i1, rfl, i2⟩, hR⟩ | ⟨⟨i1, rfl, i2⟩, hR⟩ | ⟨i1, hR⟩
      · have HR := Lib.hid hR
        clear hR
        by_cases c4 : (m : Int) + 1 = 9007199254740992
        · go_wp2_with fail
          go_ret
          exact ⟨ret_n (by rw [HR.out]; omega), nq, rfl⟩
        · have c5 : ((m : Int) + 1 == 9007199254740992) = false := beq_eq_false_iff_ne.2 c4
          have C4 := Lib.hid c4
          clear c4
          go_wp2_with fail
          go_ret
          exact ⟨ret_n (by rw [HR.out]; omega), nq, rfl⟩
      · have HR := Lib.hid hR
        clear hR
        by_cases c4 : (m : Int) + 1 = 9007199254740992
        · go_wp2_with fail
          go_ret
          exact ⟨ret_n (by rw [HR.out]; omega), nq, rfl⟩
        · have c5 : ((m : Int) + 1 == 9007199254740992) = false := beq_eq_false_iff_ne.2 c4
          have C4 := Lib.hid c4
          clear c4
          go_wp2_with fail
          go_ret
          exact ⟨ret_n (by rw [HR.out]; omega), nq, rfl⟩
      · have HR := Lib.hid hR
        clear hR
        have c4 : ((m : Int) == 9007199254740992) = false := beq_eq_false_iff_ne.2 (by omega)
        go_wp2_with fail
        go_ret
        exact ⟨ret_n (by rw [HR.out]; omega), nq, rfl⟩
      · have HR := Lib.hid hR
        clear hR
        have c4 : ((m : Int) == 9007199254740992) = false := beq_eq_false_iff_ne.2 (by omega)
        go_wp2_with fail
        go_ret
        exact ⟨ret_n (by rw [HR.out]; omega), nq, rfl⟩

end Go.Proofs.Ythlbeehlcgnggaa
