/-
  What turn and endOfRow answer.
-/
import Derived.Test.YtmpjhbbcfnffhaaYc
import Derived.Test.YtmpjhbbcfnffhaaYd
import Derived.Test.YtmpjhbbcfnffhaaMm
namespace Go.Proofs.Ytmpjhbbcfnffhaa
open Go.RowKit

namespace Sp
theorem pw_nat (t : Nat) : pw t = ((2 ^ (6 * t) : Nat) : Int) := by
  unfold pw
  rw [Nat.pow_mul]
  simp
theorem pw_le (t : Nat) (h : t ≤ 3) : 1 ≤ pw t ∧ pw t ≤ 262144 := ⟨pw_pos t, (pw_cases t 3 (by omega) h).1⟩
theorem and_pw (x : Int) (t : Nat) (ht : t ≤ 3) (h0 : 0 ≤ x) (h1 : x < 1099511627776) : bits .and .i64 x (pw t - 1) = x % pw t := by
  rw [pw_nat]
  exact and_int x (6 * t) _ rfl h0 h1 (by omega)
theorem or_pw (x : Int) (t : Nat) (ht : t ≤ 3) (h0 : 0 ≤ x) (h1 : x < 1099511627776) : bits .or .i64 x (pw t - 1) = x - x % pw t + (pw t - 1) := by
  rw [pw_nat]
  exact or_int x (6 * t) _ rfl h0 h1 (by omega)
theorem clear_pw (x : Int) (t : Nat) (ht : t ≤ 3) (h0 : 0 ≤ x) (h1 : x < 1099511627776) : bits .andNot .i64 x (pw t - 1) = x - x % pw t := by
  rw [pw_nat]
  exact clear_int x (6 * t) _ rfl h0 h1 (by omega)
end Sp
namespace Sp
theorem endOf_lt {c last : Int} {tails t : Nat} (h : turns c last tails 0 = t) (ht : t < tails) : endOf c last tails = (min last (c - c % pw (t + 1) + (pw (t + 1) - 1)) + 1) - (min last (c - c % pw (t + 1) + (pw (t + 1) - 1)) + 1) % pw t - 1 := by
  unfold endOf
  rw [h]
  dsimp only
  rw [if_pos ht]
theorem endOf_eq {c last : Int} {tails t : Nat} (h : turns c last tails 0 = t) (ht : ¬ t < tails) : endOf c last tails = (last + 1) - (last + 1) % pw t - 1 := by
  unfold endOf
  rw [h]
  dsimp only
  rw [if_neg ht]
end Sp
theorem ret_iY {a b : Int} (h : a = b) : Ending.returned (.int .i64 a) = .returned (.int .i64 b) := by rw [h]
theorem turn_any (t : Nat) (ht : t ≤ 3) (w : World) : Calls Try.prog 21 #[.int .i64 t] w fun e w' => e = .returned (.int .i64 (Sp.pw t - 1)) ∧ w = w' := by
  have h : t = 0 ∨ t = 1 ∨ t = 2 ∨ t = 3 := by omega
  clear ht
  rcases h with rfl | rfl | rfl | rfl
  all_goals
    go_enter Try.func21, Try.ntmps21
    go_wp2_with fail
    go_ret
    exact ⟨ret_iY (by decide +kernel), rfl⟩

set_option maxRecDepth 100000 in
set_option maxHeartbeats 2000000 in
theorem endOf_any (c last : Int) (tails : Nat) (w : World) (h0 : 0 ≤ c) (hc : c ≤ last) (hl : last ≤ 1114111) (ht : tails ≤ 3) :
    Calls Try.prog 14 #[.int .i64 c, .int .i64 last, .int .i64 tails] w fun e w' => e = .returned (.int .i64 (Sp.endOf c last tails)) ∧ w = w' := by
  go_enter Try.func14, Try.ntmps14
  go_wp2_with fail
  go_loop [7] (fun i => ∃ t : Nat, t ≤ tails ∧ i = .int .i64 t ∧ Hid (Sp.turns c last tails 0 = Sp.turns c last (tails - t) t)) (fun i => tails - (intOf i).toNat)
  case atStart => exact ⟨0, Nat.zero_le _, rfl, rfl⟩
  case round =>
    obtain ⟨t, htl, rfl, hT⟩ := hrel
    by_cases hlt : t < tails
    · have i1 : (t : Int) < (tails : Int) := by omega
      have ht3 : t + 1 ≤ 3 := by omega
      have hand := Sp.and_pw c (t + 1) ht3 h0 (by omega)
      have hor := Sp.or_pw c (t + 1) ht3 h0 (by omega)
      obtain ⟨p1, p2⟩ := Sp.pw_le (t + 1) ht3
      have hm0 := Int.emod_nonneg c (show Sp.pw (t + 1) ≠ 0 by omega)
      have hm1 := Int.emod_lt_of_pos c (show 0 < Sp.pw (t + 1) by omega)
      have H : Hid (Calls Try.prog 21 #[.int .i64 ((t : Int) + 1)] w fun e w' => e = .returned (.int .i64 (Sp.pw (t + 1) - 1)) ∧ w = w') := by
        have := turn_any (t + 1) ht3 w
        rw [Int.natCast_succ] at this
        exact Lib.hid this
      obtain ⟨m, hm⟩ : ∃ m, tails - t = m + 1 := ⟨tails - t - 1, by omega⟩
      have hstep : Sp.turns c last (m + 1) t = if c % Sp.pw (t + 1) = 0 ∧ c + (Sp.pw (t + 1) - 1) ≤ last then Sp.turns c last m (t + 1) else t := rfl
      have hm2 : tails - (t + 1) = m := by omega
      have HT : Hid (c % Sp.pw (t + 1) = 0 ∧ c + (Sp.pw (t + 1) - 1) ≤ last → Sp.turns c last tails 0 = Sp.turns c last (tails - (t + 1)) (t + 1)) := by
        intro hh
        rw [hT.out, hm, hstep, if_pos hh, hm2]
      have HN : Hid (¬ (c % Sp.pw (t + 1) = 0 ∧ c + (Sp.pw (t + 1) - 1) ≤ last) → Sp.turns c last tails 0 = t) := by
        intro hh
        rw [hT.out, hm, hstep, if_neg hh]
      clear hm hstep hm2 hT
      by_cases hz : c % Sp.pw (t + 1) = 0
      · by_cases hle : c + (Sp.pw (t + 1) - 1) ≤ last
        · have hT2 : Hid (Sp.turns c last tails 0 = Sp.turns c last (tails - (t + 1)) (t + 1)) := HT.out ⟨hz, hle⟩
          rw [hz] at hand hor
          rw [Int.sub_zero] at hor
          clear hz hm0 hm1 HT HN
          generalize Sp.pw (t + 1) = P at *
          go_wp2_with (go_at_call 21; refine H.out.mono ?_; rintro e w' ⟨rfl, rfl⟩)
          go_round
          case rel => exact ⟨t + 1, by omega, by go_num, hT2⟩
          case measure => simp [intOf]; omega
        · have hfin : Hid (Sp.turns c last tails 0 = t) := HN.out (fun h => hle h.2)
          rw [hz] at hand hor
          rw [Int.sub_zero] at hor
          clear HT HN
          obtain ⟨q1, q2⟩ := Sp.pw_le t (by omega)
          have H0 := Lib.hid (turn_any t (by omega) w)
          have hE := Sp.endOf_lt hfin.out hlt
          skip
          clear hfin
          by_cases hmin : last ≤ c + (Sp.pw (t + 1) - 1)
          · rw [show min last (c - c % Sp.pw (t + 1) + (Sp.pw (t + 1) - 1)) = last by omega] at hE
            have hcl := Sp.clear_pw (last + 1) t (by omega) (by omega) (by omega)
            have HF := Lib.hid hE
            have hn0 := Int.emod_nonneg (last + 1) (show Sp.pw t ≠ 0 by omega)
            have hn1 := Int.emod_lt_of_pos (last + 1) (show 0 < Sp.pw t by omega)
            clear hE hz hm0 hm1
            generalize Sp.pw (t + 1) = P at *
            generalize Sp.pw t = R at *
            skip
            go_wp2_with (go_at_call 21; first | (refine H.out.mono ?_; rintro e w' ⟨rfl, rfl⟩) | (refine H0.out.mono ?_; rintro e w' ⟨rfl, rfl⟩))
            go_ret
            exact ⟨ret_iY HF.out.symm, rfl⟩
          · exact absurd (show c + (Sp.pw (t + 1) - 1) ≤ last by omega) hle
      · have hfin : Hid (Sp.turns c last tails 0 = t) := HN.out (fun h => hz h.1)
        have hz1 : (c % Sp.pw (t + 1) == 0) = false := by simpa using hz
        clear HT HN
        obtain ⟨q1, q2⟩ := Sp.pw_le t (by omega)
        have H0 := Lib.hid (turn_any t (by omega) w)
        have hE := Sp.endOf_lt hfin.out hlt
        skip
        clear hfin
        by_cases hmin : last ≤ c - c % Sp.pw (t + 1) + (Sp.pw (t + 1) - 1)
        · rw [show min last (c - c % Sp.pw (t + 1) + (Sp.pw (t + 1) - 1)) = last by omega] at hE
          have hcl := Sp.clear_pw (last + 1) t (by omega) (by omega) (by omega)
          have HF := Lib.hid hE
          have hn0 := Int.emod_nonneg (last + 1) (show Sp.pw t ≠ 0 by omega)
          have hn1 := Int.emod_lt_of_pos (last + 1) (show 0 < Sp.pw t by omega)
          clear hE hz
          generalize Sp.pw (t + 1) = P at *
          generalize Sp.pw t = R at *
          generalize c % P = cm at *
          go_wp2_with (go_at_call 21; first | (refine H.out.mono ?_; rintro e w' ⟨rfl, rfl⟩) | (refine H0.out.mono ?_; rintro e w' ⟨rfl, rfl⟩))
          go_ret
          exact ⟨ret_iY HF.out.symm, rfl⟩
        · rw [show min last (c - c % Sp.pw (t + 1) + (Sp.pw (t + 1) - 1)) = c - c % Sp.pw (t + 1) + (Sp.pw (t + 1) - 1) by omega] at hE
          have hcl := Sp.clear_pw (c - c % Sp.pw (t + 1) + (Sp.pw (t + 1) - 1) + 1) t (by omega) (by omega) (by omega)
          have HF := Lib.hid hE
          have hn0 := Int.emod_nonneg (c - c % Sp.pw (t + 1) + (Sp.pw (t + 1) - 1) + 1) (show Sp.pw t ≠ 0 by omega)
          have hn1 := Int.emod_lt_of_pos (c - c % Sp.pw (t + 1) + (Sp.pw (t + 1) - 1) + 1) (show 0 < Sp.pw t by omega)
          clear hE hz
          generalize Sp.pw (t + 1) = P at *
          generalize Sp.pw t = R at *
          generalize c % P = cm at *
          go_wp2_with (go_at_call 21; first | (refine H.out.mono ?_; rintro e w' ⟨rfl, rfl⟩) | (refine H0.out.mono ?_; rintro e w' ⟨rfl, rfl⟩))
          go_ret
          exact ⟨ret_iY HF.out.symm, rfl⟩
    · have hfin : Hid (Sp.turns c last tails 0 = t) := by
        show _ = _
        rw [hT.out, show tails - t = 0 by omega]
        rfl
      have H0 := Lib.hid (turn_any t (by omega) w)
      have H := H0
      obtain ⟨q1, q2⟩ := Sp.pw_le t (by omega)
      have hE := Sp.endOf_eq hfin.out hlt
      have hcl := Sp.clear_pw (last + 1) t (by omega) (by omega) (by omega)
      have HF := Lib.hid hE
      have hn0 := Int.emod_nonneg (last + 1) (show Sp.pw t ≠ 0 by omega)
      have hn1 := Int.emod_lt_of_pos (last + 1) (show 0 < Sp.pw t by omega)
      clear hfin hT hE
      generalize Sp.pw t = R at *
      go_wp2_with (go_at_call 21; first | (refine H.out.mono ?_; rintro e w' ⟨rfl, rfl⟩) | (refine H0.out.mono ?_; rintro e w' ⟨rfl, rfl⟩))
      go_ret
      exact ⟨ret_iY HF.out.symm, rfl⟩
end Go.Proofs.Ytmpjhbbcfnffhaa
