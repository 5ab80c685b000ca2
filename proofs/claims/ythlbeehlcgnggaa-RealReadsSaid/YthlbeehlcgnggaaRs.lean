/-
  The given package: the number of a text: the walk.
-/
import Derived.Test.YthlbeehlcgnggaaRe
namespace Go.Proofs.Ythlbeehlcgnggaa
open Go.RowKit

theorem mk_empty {s : ByteArray} (h : s.data.toList = []) : s = ⟨#[]⟩ := by
  cases s with
  | mk d => simp at h; rw [h]

set_option maxRecDepth 100000 in
set_option maxHeartbeats 4000000 in
/-- A text with a minus. -/
theorem refParse_minus (s t : ByteArray) (hs : s.size ≤ 9223372036854775806) (q1 : (s.toList == ([110, 97, 110] : List UInt8)) = false) (q2 : (s.toList == ([105, 110, 102] : List UInt8)) = false) (q3 : (s.toList == ([45, 105, 110, 102] : List UInt8)) = false)
    (q4 : 0 < s.size) (q5 : ((s[0].toNat : Int) == 45) = true) (q6 : s.extract 1 s.size = t) (ht : t.size ≤ 9223372036854775806) (w : World) :
    Calls Try.prog 17 #[.string s] w fun e w' => e = .returned (.tuple (ansP ((Rf.size t.data.toList).map fun p => Rf.ratio p.1 p.2 + 9223372036854775808))) ∧ ∃ n, w' = w.drewN n := by
  have q7 : (0 : Int) < (s.size : Int) := by omega
  have q8 : (1 : Int) ≤ (s.size : Int) := by omega
  obtain ⟨K, X, hD, hKs, hX, hb⟩ := ref_body t ht
  have hD := Lib.hid hD
  unfold RefBody at hb
  rcases hb with ⟨rfl, hz⟩ | ⟨hk0, rfl, hz⟩ | ⟨hk0, hKl, t2, u, h0, M, Y, e2, eu, hss, hU, hM3, hY, ⟨hc | ⟨hc, hM | ⟨hM, hM1⟩⟩, hz⟩ | ⟨hc, hM, hM1, hz⟩⟩
  · rw [hz]
    clear hX
    go_enter Try.func17, Try.ntmps17
    go_wp2_with fail
    go_at_call 27
    refine (hD.out _).mono ?_
    rintro e w1 ⟨rfl, rfl⟩
    go_wp2_with fail
    go_ret2
    exact ⟨rfl, 0, rfl⟩
  · rw [hz]
    have hs2 : t.extract t.size t.size = ⟨#[]⟩ := by
      apply mk_empty
      rw [extract_drop]
      exact List.drop_of_length_le (by rw [Array.length_toList]; exact Nat.le_refl _)
    have hz2 : (ByteArray.mk #[]).size = 0 := rfl
    have hR := Lib.hid (ratio_any X 1 (by omega) (by decide) (by decide))
    have hRb := Rf.ratio_le X 1 (by decide) (by omega) (by decide)
    simp only [Option.map_some, ansP]
    generalize Rf.ratio X 1 = R at *
    have k1 : (0 : Int) < (t.size : Int) := by omega
    have k2 : ((t.size : Int) == 0) = false := beq_eq_false_iff_ne.2 (by omega)
    have R1 : (R : Int) ≤ 9218868437227405312 := by omega
    clear hRb hX hz hk0 hKs
    go_enter Try.func17, Try.ntmps17
    go_wp2_with fail
    go_at_call 27
    refine (hD.out _).mono ?_
    rintro e w1 ⟨rfl, rfl⟩
    go_wp2_with fail
    go_at_call 28
    refine (hR.out _).mono ?_
    rintro e w3 ⟨rfl, n, rfl⟩
    go_wp2_with fail
    go_ret2
    exact ⟨rfl, n, rfl⟩
  · rw [hz]
    have k1 : (0 : Int) < (K : Int) := by omega
    have k2 : ((K : Int) == 0) = false := beq_eq_false_iff_ne.2 (by omega)
    have k3 : (K : Int) ≤ (t.size : Int) := by omega
    have k4 : (1 : Int) ≤ (t2.size : Int) := by omega
    have k5 : (0 : Int) < (t2.size : Int) := by omega
    have k8 : t2.size ≤ 9223372036854775806 := by omega
    have HU := Lib.hid hU
    clear hX hU hY hz hk0 hKs hss hM3
    go_enter Try.func17, Try.ntmps17
    go_wp2_with fail
    go_at_call 27
    refine (hD.out _).mono ?_
    rintro e w1 ⟨rfl, rfl⟩
    go_wp2_with fail
    go_at_call 27
    refine (HU.out _).mono ?_
    rintro e w2 ⟨rfl, rfl⟩
    go_wp2_with fail
    go_ret2
    exact ⟨rfl, 0, rfl⟩
  · rw [hz]
    subst hM
    have k1 : (0 : Int) < (K : Int) := by omega
    have k2 : ((K : Int) == 0) = false := beq_eq_false_iff_ne.2 (by omega)
    have k3 : (K : Int) ≤ (t.size : Int) := by omega
    have k4 : (1 : Int) ≤ (t2.size : Int) := by omega
    have k5 : (0 : Int) < (t2.size : Int) := by omega
    have k8 : t2.size ≤ 9223372036854775806 := by omega
    have HU := Lib.hid hU
    clear hX hU hY hz hk0 hKs hss hM3
    go_enter Try.func17, Try.ntmps17
    go_wp2_with fail
    go_at_call 27
    refine (hD.out _).mono ?_
    rintro e w1 ⟨rfl, rfl⟩
    go_wp2_with fail
    go_at_call 27
    refine (HU.out _).mono ?_
    rintro e w2 ⟨rfl, rfl⟩
    go_wp2_with fail
    go_ret2
    exact ⟨rfl, 0, rfl⟩
  · rw [hz]
    have k1 : (0 : Int) < (K : Int) := by omega
    have k2 : ((K : Int) == 0) = false := beq_eq_false_iff_ne.2 (by omega)
    have k3 : (K : Int) ≤ (t.size : Int) := by omega
    have k4 : (1 : Int) ≤ (t2.size : Int) := by omega
    have k5 : (0 : Int) < (t2.size : Int) := by omega
    have k8 : t2.size ≤ 9223372036854775806 := by omega
    have HU := Lib.hid hU
    have k6 : ((M : Int) == 0) = false := beq_eq_false_iff_ne.2 (by omega)
    have k7 : ((M : Int) != (t2.size : Int) - 1) = true := bne_iff_ne.2 (by omega)
    clear hX hU hY hz hk0 hKs hss hM3 hM hM1
    go_enter Try.func17, Try.ntmps17
    go_wp2_with fail
    go_at_call 27
    refine (hD.out _).mono ?_
    rintro e w1 ⟨rfl, rfl⟩
    go_wp2_with fail
    go_at_call 27
    refine (HU.out _).mono ?_
    rintro e w2 ⟨rfl, rfl⟩
    go_wp2_with fail
    go_ret2
    exact ⟨rfl, 0, rfl⟩
  · rw [hz]
    have k1 : (0 : Int) < (K : Int) := by omega
    have k2 : ((K : Int) == 0) = false := beq_eq_false_iff_ne.2 (by omega)
    have k3 : (K : Int) ≤ (t.size : Int) := by omega
    have k4 : (1 : Int) ≤ (t2.size : Int) := by omega
    have k5 : (0 : Int) < (t2.size : Int) := by omega
    have k8 : t2.size ≤ 9223372036854775806 := by omega
    have HU := Lib.hid hU
    have k6 : ((M : Int) == 0) = false := beq_eq_false_iff_ne.2 (by omega)
    have k7 : ((M : Int) != (t2.size : Int) - 1) = false := bne_eq_false_iff_eq.2 (by omega)
    have z1 : 0 < 10 ^ M := Nat.pow_pos (by decide)
    have z2 : ∀ k ≤ 3, 10 ^ k ≤ 1000 := by decide
    have z3 := z2 M hM3
    obtain ⟨Z, hZ⟩ : ∃ Z, 10 ^ M = Z := ⟨_, rfl⟩
    rw [hZ] at z1 z3
    obtain ⟨A, hA⟩ : ∃ A, X * Z = A := ⟨_, rfl⟩
    have a1 : A ≤ 999999999999000 := by
      rw [← hA]
      calc X * Z ≤ 999999999999 * 1000 := Nat.mul_le_mul (by omega) z3
        _ = _ := rfl
    have a2 : IntKind.u64.wrap ((X : Int) * (Z : Int)) = (A : Int) := by
      rw [← hA, ← Int.natCast_mul]
      rw [hA]
      exact IntWalk.u64_in _ (by omega)
    have hR := ratio_any (A + Y) Z (by omega) z1 z3
    have hRb := Rf.ratio_le (A + Y) Z z1 (by omega) (by omega)
    simp only [Option.map_some, ansP]
    rw [hZ, hA]
    generalize Rf.ratio (A + Y) Z = R at *
    have HR := Lib.hid hR
    have R1 : (R : Int) ≤ 9218868437227405312 := by omega
    have y1 : (Y : Int) < 1000 := by omega
    have a3 : (A : Int) ≤ 999999999999000 := by omega
    have HZ := Lib.hid hZ
    have HZ2 := Lib.hid z2
    have zb : (Z : Int) ≤ 1000 := by omega
    clear hX hU hY hz hk0 hKs hss hM hM1 hR hRb hA a1 hZ z1 z2 z3
    go_enter Try.func17, Try.ntmps17
    go_wp2_with fail
    go_at_call 27
    refine (hD.out _).mono ?_
    rintro e w1 ⟨rfl, rfl⟩
    go_wp2_with fail
    go_at_call 27
    refine (HU.out _).mono ?_
    rintro e w2 ⟨rfl, rfl⟩
    go_wp2_with fail
    go_loopg [7, 10] M (fun g vz vi wx => ∃ j z : Nat, j ≤ M ∧ g = M - j ∧ vz = .int .u64 z ∧ vi = .int .i64 j ∧ Hid (z = 10 ^ j) ∧ z ≤ 1000 ∧ wx = w2)
    case atStart => exact ⟨0, 1, Nat.zero_le _, rfl, rfl, rfl, rfl, by omega, rfl⟩
    case round =>
      obtain ⟨j, z, hj, rfl, rfl, rfl, hz, hzb, rfl⟩ := hrel
      by_cases hjm : j < M
      · have j1 : (j : Int) < (M : Int) := by omega
        have hst : Hid (10 * z = 10 ^ (j + 1)) := by
          show _ = _
          rw [hz.out, Nat.pow_succ, Nat.mul_comm]
        have hz2 : 10 * z ≤ 1000 := by
          rw [hst.out]
          exact HZ2.out (j + 1) (by omega)
        clear hz
        go_wp2_with fail
        go_roundg (M - (j + 1))
        case rel => exact ⟨j + 1, 10 * z, by omega, rfl, by go_num, by go_num, hst, hz2, rfl⟩
        case measure => omega
      · obtain rfl : j = M := by omega
        obtain rfl : z = Z := by rw [← HZ.out, hz.out]
        clear hz HZ
        go_wp2_with fail
        go_at_call 28
        refine (HR.out _).mono ?_
        rintro e w3 ⟨rfl, n, rfl⟩
        go_wp2_with fail
        go_ret2
        exact ⟨rfl, n, rfl⟩

set_option maxRecDepth 100000 in
set_option maxHeartbeats 4000000 in
/-- A text with no minus. -/
theorem refParse_plus (t : ByteArray) (q1 : (t.toList == ([110, 97, 110] : List UInt8)) = false) (q2 : (t.toList == ([105, 110, 102] : List UInt8)) = false) (q3 : (t.toList == ([45, 105, 110, 102] : List UInt8)) = false)
    (q4 : 0 < t.size) (q5 : ((t[0].toNat : Int) == 45) = false) (ht : t.size ≤ 9223372036854775806) (w : World) :
    Calls Try.prog 17 #[.string t] w fun e w' => e = .returned (.tuple (ansP ((Rf.size t.data.toList).map fun p => Rf.ratio p.1 p.2))) ∧ ∃ n, w' = w.drewN n := by
  have q7 : (0 : Int) < (t.size : Int) := by omega
  obtain ⟨K, X, hD, hKs, hX, hb⟩ := ref_body t ht
  have hD := Lib.hid hD
  unfold RefBody at hb
  rcases hb with ⟨rfl, hz⟩ | ⟨hk0, rfl, hz⟩ | ⟨hk0, hKl, t2, u, h0, M, Y, e2, eu, hss, hU, hM3, hY, ⟨hc | ⟨hc, hM | ⟨hM, hM1⟩⟩, hz⟩ | ⟨hc, hM, hM1, hz⟩⟩
  · rw [hz]
    clear hX
    go_enter Try.func17, Try.ntmps17
    go_wp2_with fail
    go_at_call 27
    refine (hD.out _).mono ?_
    rintro e w1 ⟨rfl, rfl⟩
    go_wp2_with fail
    go_ret2
    exact ⟨rfl, 0, rfl⟩
  · rw [hz]
    have hs2 : t.extract t.size t.size = ⟨#[]⟩ := by
      apply mk_empty
      rw [extract_drop]
      exact List.drop_of_length_le (by rw [Array.length_toList]; exact Nat.le_refl _)
    have hz2 : (ByteArray.mk #[]).size = 0 := rfl
    have hR := Lib.hid (ratio_any X 1 (by omega) (by decide) (by decide))
    have hRb := Rf.ratio_le X 1 (by decide) (by omega) (by decide)
    simp only [Option.map_some, ansP]
    generalize Rf.ratio X 1 = R at *
    have k1 : (0 : Int) < (t.size : Int) := by omega
    have k2 : ((t.size : Int) == 0) = false := beq_eq_false_iff_ne.2 (by omega)
    have R1 : (R : Int) ≤ 9218868437227405312 := by omega
    clear hRb hX hz hk0 hKs
    go_enter Try.func17, Try.ntmps17
    go_wp2_with fail
    go_at_call 27
    refine (hD.out _).mono ?_
    rintro e w1 ⟨rfl, rfl⟩
    go_wp2_with fail
    go_at_call 28
    refine (hR.out _).mono ?_
    rintro e w3 ⟨rfl, n, rfl⟩
    go_wp2_with fail
    go_ret2
    exact ⟨rfl, n, rfl⟩
  · rw [hz]
    have k1 : (0 : Int) < (K : Int) := by omega
    have k2 : ((K : Int) == 0) = false := beq_eq_false_iff_ne.2 (by omega)
    have k3 : (K : Int) ≤ (t.size : Int) := by omega
    have k4 : (1 : Int) ≤ (t2.size : Int) := by omega
    have k5 : (0 : Int) < (t2.size : Int) := by omega
    have k8 : t2.size ≤ 9223372036854775806 := by omega
    have HU := Lib.hid hU
    clear hX hU hY hz hk0 hKs hss hM3
    go_enter Try.func17, Try.ntmps17
    go_wp2_with fail
    go_at_call 27
    refine (hD.out _).mono ?_
    rintro e w1 ⟨rfl, rfl⟩
    go_wp2_with fail
    go_at_call 27
    refine (HU.out _).mono ?_
    rintro e w2 ⟨rfl, rfl⟩
    go_wp2_with fail
    go_ret2
    exact ⟨rfl, 0, rfl⟩
  · rw [hz]
    subst hM
    have k1 : (0 : Int) < (K : Int) := by omega
    have k2 : ((K : Int) == 0) = false := beq_eq_false_iff_ne.2 (by omega)
    have k3 : (K : Int) ≤ (t.size : Int) := by omega
    have k4 : (1 : Int) ≤ (t2.size : Int) := by omega
    have k5 : (0 : Int) < (t2.size : Int) := by omega
    have k8 : t2.size ≤ 9223372036854775806 := by omega
    have HU := Lib.hid hU
    clear hX hU hY hz hk0 hKs hss hM3
    go_enter Try.func17, Try.ntmps17
    go_wp2_with fail
    go_at_call 27
    refine (hD.out _).mono ?_
    rintro e w1 ⟨rfl, rfl⟩
    go_wp2_with fail
    go_at_call 27
    refine (HU.out _).mono ?_
    rintro e w2 ⟨rfl, rfl⟩
    go_wp2_with fail
    go_ret2
    exact ⟨rfl, 0, rfl⟩
  · rw [hz]
    have k1 : (0 : Int) < (K : Int) := by omega
    have k2 : ((K : Int) == 0) = false := beq_eq_false_iff_ne.2 (by omega)
    have k3 : (K : Int) ≤ (t.size : Int) := by omega
    have k4 : (1 : Int) ≤ (t2.size : Int) := by omega
    have k5 : (0 : Int) < (t2.size : Int) := by omega
    have k8 : t2.size ≤ 9223372036854775806 := by omega
    have HU := Lib.hid hU
    have k6 : ((M : Int) == 0) = false := beq_eq_false_iff_ne.2 (by omega)
    have k7 : ((M : Int) != (t2.size : Int) - 1) = true := bne_iff_ne.2 (by omega)
    clear hX hU hY hz hk0 hKs hss hM3 hM hM1
    go_enter Try.func17, Try.ntmps17
    go_wp2_with fail
    go_at_call 27
    refine (hD.out _).mono ?_
    rintro e w1 ⟨rfl, rfl⟩
    go_wp2_with fail
    go_at_call 27
    refine (HU.out _).mono ?_
    rintro e w2 ⟨rfl, rfl⟩
    go_wp2_with fail
    go_ret2
    exact ⟨rfl, 0, rfl⟩
  · rw [hz]
    have k1 : (0 : Int) < (K : Int) := by omega
    have k2 : ((K : Int) == 0) = false := beq_eq_false_iff_ne.2 (by omega)
    have k3 : (K : Int) ≤ (t.size : Int) := by omega
    have k4 : (1 : Int) ≤ (t2.size : Int) := by omega
    have k5 : (0 : Int) < (t2.size : Int) := by omega
    have k8 : t2.size ≤ 9223372036854775806 := by omega
    have HU := Lib.hid hU
    have k6 : ((M : Int) == 0) = false := beq_eq_false_iff_ne.2 (by omega)
    have k7 : ((M : Int) != (t2.size : Int) - 1) = false := bne_eq_false_iff_eq.2 (by omega)
    have z1 : 0 < 10 ^ M := Nat.pow_pos (by decide)
    have z2 : ∀ k ≤ 3, 10 ^ k ≤ 1000 := by decide
    have z3 := z2 M hM3
    obtain ⟨Z, hZ⟩ : ∃ Z, 10 ^ M = Z := ⟨_, rfl⟩
    rw [hZ] at z1 z3
    obtain ⟨A, hA⟩ : ∃ A, X * Z = A := ⟨_, rfl⟩
    have a1 : A ≤ 999999999999000 := by
      rw [← hA]
      calc X * Z ≤ 999999999999 * 1000 := Nat.mul_le_mul (by omega) z3
        _ = _ := rfl
    have a2 : IntKind.u64.wrap ((X : Int) * (Z : Int)) = (A : Int) := by
      rw [← hA, ← Int.natCast_mul]
      rw [hA]
      exact IntWalk.u64_in _ (by omega)
    have hR := ratio_any (A + Y) Z (by omega) z1 z3
    have hRb := Rf.ratio_le (A + Y) Z z1 (by omega) (by omega)
    simp only [Option.map_some, ansP]
    rw [hZ, hA]
    generalize Rf.ratio (A + Y) Z = R at *
    have HR := Lib.hid hR
    have R1 : (R : Int) ≤ 9218868437227405312 := by omega
    have y1 : (Y : Int) < 1000 := by omega
    have a3 : (A : Int) ≤ 999999999999000 := by omega
    have HZ := Lib.hid hZ
    have HZ2 := Lib.hid z2
    have zb : (Z : Int) ≤ 1000 := by omega
    clear hX hU hY hz hk0 hKs hss hM hM1 hR hRb hA a1 hZ z1 z2 z3
    go_enter Try.func17, Try.ntmps17
    go_wp2_with fail
    go_at_call 27
    refine (hD.out _).mono ?_
    rintro e w1 ⟨rfl, rfl⟩
    go_wp2_with fail
    go_at_call 27
    refine (HU.out _).mono ?_
    rintro e w2 ⟨rfl, rfl⟩
    go_wp2_with fail
    go_loopg [7, 10] M (fun g vz vi wx => ∃ j z : Nat, j ≤ M ∧ g = M - j ∧ vz = .int .u64 z ∧ vi = .int .i64 j ∧ Hid (z = 10 ^ j) ∧ z ≤ 1000 ∧ wx = w2)
    case atStart => exact ⟨0, 1, Nat.zero_le _, rfl, rfl, rfl, rfl, by omega, rfl⟩
    case round =>
      obtain ⟨j, z, hj, rfl, rfl, rfl, hz, hzb, rfl⟩ := hrel
      by_cases hjm : j < M
      · have j1 : (j : Int) < (M : Int) := by omega
        have hst : Hid (10 * z = 10 ^ (j + 1)) := by
          show _ = _
          rw [hz.out, Nat.pow_succ, Nat.mul_comm]
        have hz2 : 10 * z ≤ 1000 := by
          rw [hst.out]
          exact HZ2.out (j + 1) (by omega)
        clear hz
        go_wp2_with fail
        go_roundg (M - (j + 1))
        case rel => exact ⟨j + 1, 10 * z, by omega, rfl, by go_num, by go_num, hst, hz2, rfl⟩
        case measure => omega
      · obtain rfl : j = M := by omega
        obtain rfl : z = Z := by rw [← HZ.out, hz.out]
        clear hz HZ
        go_wp2_with fail
        go_at_call 28
        refine (HR.out _).mono ?_
        rintro e w3 ⟨rfl, n, rfl⟩
        go_wp2_with fail
        go_ret2
        exact ⟨rfl, n, rfl⟩

end Go.Proofs.Ythlbeehlcgnggaa

