/-
  The program's number of a text whose parts are digits.
-/
import Derived.Test.YthlbeehlcgnggaaRz
namespace Go.Proofs.Ythlbeehlcgnggaa
open Go.RowKit

theorem digit_bounds (c : UInt8) (n : Nat) (h : n = c.toNat) (hd : Rf.isD c = true) : 48 ≤ n ∧ n ≤ 57 := by
  rw [isD_of c n h] at hd
  exact of_decide_eq_true hd

set_option maxRecDepth 100000 in
set_option maxHeartbeats 4000000 in
theorem parseSize_good (s a b : ByteArray) (pt : Bool) (q1 : (s.toList == ([105, 110, 102] : List UInt8)) = false) (D : ByteArray → Int → Bool) (h1 : D a 12 = true) (h2 : pt = false ∨ pt = true ∧ D b 3 = true)
    (hall : (a.data.toList ++ b.data.toList).all Rf.isD = true) (hN : a.size + b.size ≤ 15) (hB : b.size ≤ 3)
    (hc : ∀ w, Calls Try.prog 31 #[.string s, .string ⟨#[46]⟩] w fun e w' => e = .returned (.tuple #[.string a, .string b, .bool pt]) ∧ ∃ n, w' = w.drewN n)
    (hD : ∀ (x : ByteArray) (m : Int), (x = a ∨ x = b) → (m = 12 ∨ m = 3) → ∀ w, Calls Try.prog 32 #[.string x, .int .i64 m] w fun e w' => e = .returned (.bool (D x m)) ∧ Below w.heap.size w w') (w : World) :
    Calls Try.prog 24 #[.string s] w fun e w' => e = .returned (.tuple #[.float .f64 (Rf.ratio (Rf.dec 0 (a.data.toList ++ b.data.toList)) (10 ^ b.data.toList.length)), .int .i64 0]) ∧ Below w.heap.size w w' := by
  obtain ⟨cF, wF, hcv, hbF, hclF⟩ := bytes_at (a ++ b)
  have hl : (a ++ b).data.toList = a.data.toList ++ b.data.toList := by simp
  have lb : b.data.toList.length = b.size := Array.length_toList
  have hn1 : ¬ 9223372036854775807 < a.size + b.size := by omega
  have hsz : (a ++ b).size = a.size + b.size := by simp
  have hll : (a ++ b).data.toList.length = (a ++ b).size := Array.length_toList
  rw [← hl] at hall ⊢
  rw [lb]
  obtain ⟨N, hNe⟩ : ∃ N, (a ++ b).size = N := ⟨_, rfl⟩
  obtain ⟨M, hMe⟩ : ∃ M, b.size = M := ⟨_, rfl⟩
  have hq := dec_take_lt (a ++ b).data.toList
  have hz : ∀ k ≤ 3, 10 ^ k ≤ 1000 := by decide
  have n15 : N ≤ 15 := by omega
  have m3 : M ≤ 3 := by omega
  rw [hMe]
  have HL := Lib.hid hl
  have HLL := Lib.hid hll
  have HA := Lib.hid hall
  have HQ := Lib.hid hq
  have HZ := Lib.hid hz
  have HCL := Lib.hid hclF
  have HBF := Lib.hid hbF
  have HN := Lib.hid hNe
  rw [hNe] at hcv
  clear hl hll hall hq hz hclF hbF lb hsz hN hB
  have hr := Rf.div_eq (Rf.dec 0 (a ++ b).data.toList) (10 ^ M) (by
    have h := HQ.out N HA.out (by rw [HLL.out, HN.out]; omega)
    rw [show (a ++ b).data.toList.take N = (a ++ b).data.toList by rw [← HN.out, ← HLL.out, List.take_length]] at h
    omega) (Nat.pow_pos (by decide)) (by have := HZ.out M m3; omega)
  generalize Rf.ratio (Rf.dec 0 (a ++ b).data.toList) (10 ^ M) = R at *
  have HR := Lib.hid hr
  clear hr
  go_enter Try.func24, Try.ntmps24
  go_wp2_with fail
  go_at_call 31
  refine (hc _).mono ?_
  rintro e w1 ⟨rfl, n0, rfl⟩
  have hb1 := Lib.hid (grew_d w n0)
  generalize w.drewN n0 = w1 at *
  clear hc
  rcases h2 with rfl | ⟨rfl, h3⟩
  case' inl =>
    go_wp2_with fail
    go_at_call 32
    refine (hD _ _ (.inl rfl) (.inl rfl) _).mono ?_
    rintro e w2 ⟨rfl, hb2⟩
    have HB := Lib.hid (chain hb1.out hb2)
    clear hb2 hb1 hD
    go_wp2_with fail
  case' inr =>
    go_wp2_with fail
    go_at_call 32
    refine (hD _ _ (.inl rfl) (.inl rfl) _).mono ?_
    rintro e w3 ⟨rfl, hb2⟩
    have HB1 := Lib.hid (chain hb1.out hb2)
    clear hb2 hb1
    go_wp2_with fail
    go_at_call 32
    refine (hD _ _ (.inr rfl) (.inr rfl) _).mono ?_
    rintro e w2 ⟨rfl, hb3⟩
    have HB := Lib.hid (chain HB1.out hb3)
    clear hb3 HB1 hD
    go_wp2_with fail
  all_goals
    have HB4 := Lib.hid (chain HB.out (HBF.out w2))
    have HC4 := Lib.hid (HCL.out w2)
    clear HB HBF HCL hcv
    generalize wF w2 = w4 at *
    generalize w2.heap.size = g2 at *
    generalize cF w2 = c2 at *
    go_loopg [7, 36] N (fun g vn vi wx => ∃ k q : Nat, k ≤ N ∧ g = N - k ∧ vn = .int .i64 q ∧ vi = .int .i64 k ∧ Hid (q = Rf.dec 0 ((a ++ b).data.toList.take k)) ∧ q < 1000000000000000 ∧ wx = w4)
    case atStart => exact ⟨0, 0, Nat.zero_le _, rfl, rfl, rfl, by show _ = _; rw [List.take_zero]; rfl, by omega, rfl⟩
    case round =>
      obtain ⟨k, q, hk, rfl, rfl, rfl, hS, hq, rfl⟩ := hrel
      by_cases hkn : k < N
      · have j1 : (k : Int) < (N : Int) := by omega
        have ks : k < (a ++ b).size := by rw [HN.out]; exact hkn
        have kl : k < (a ++ b).data.toList.length := by rw [HLL.out]; exact ks
        obtain ⟨c, hc⟩ : ∃ c : Nat, c = (a ++ b)[k].toNat := ⟨_, rfl⟩
        have c1 : wr.cell? ⟨g2, k, none⟩ = some (.int .u8 (c : Nat)) := by rw [hc]; exact HC4.out k ks
        have hE := digit_bounds (a ++ b)[k] c hc (List.all_eq_true.1 HA.out _ (List.getElem_mem kl))
        have d1 : (48 : Int) ≤ (c : Int) := by omega
        have d2 : (c : Int) ≤ 57 := by omega
        have hst : Hid (10 * q + (c - 48) = Rf.dec 0 ((a ++ b).data.toList.take (k + 1))) := by
          show _ = _
          rw [dec_snoc _ k kl, hS.out, hc]
          rfl
        have hq2 : 10 * q + (c - 48) < 1000000000000000 := by
          rw [hst.out]
          exact HQ.out (k + 1) HA.out (by rw [HLL.out, HN.out]; omega)
        clear hS ks kl hc hE
        go_wp2_with fail
        go_roundg (N - (k + 1))
        case rel => exact ⟨k + 1, 10 * q + (c - 48), by omega, rfl, by congr 1; omega, by go_num, hst, hq2, rfl⟩
        case measure => omega
      · obtain rfl : k = N := by omega
        have hQ : Hid (q = Rf.dec 0 (a ++ b).data.toList) := by
          show _ = _
          rw [hS.out, ← HN.out, ← HLL.out, List.take_length]
        clear hS HC4
        have m0 : (M : Int) ≤ 3 := by omega
        go_wp2_with fail
        go_loopg [8, 49] M (fun g vz vi wx => ∃ j z : Nat, j ≤ M ∧ g = M - j ∧ vz = .int .i64 z ∧ vi = .int .i64 j ∧ Hid (z = 10 ^ j) ∧ z ≤ 1000 ∧ wx = wr)
        case atStart => exact ⟨0, 1, Nat.zero_le _, rfl, rfl, rfl, rfl, by omega, rfl⟩
        case round =>
          obtain ⟨j, z, hj, rfl, rfl, rfl, hz, hzb, rfl⟩ := hrel
          by_cases hjm : j < M
          · have j1 : (j : Int) < (M : Int) := by omega
            have hst : Hid (z * 10 = 10 ^ (j + 1)) := by
              show _ = _
              rw [hz.out, Nat.pow_succ]
            have hz2 : z * 10 ≤ 1000 := by
              rw [hst.out]
              exact HZ.out (j + 1) (by omega)
            clear hz
            go_wp2_with fail
            go_roundg (M - (j + 1))
            case rel => exact ⟨j + 1, z * 10, by omega, rfl, by congr 1, by go_num, hst, hz2, rfl⟩
            case measure => omega
          · obtain rfl : j = M := by omega
            have hfl := HR.out
            rw [← hz.out, ← hQ.out] at hfl
            have hq3 := fun w => run_float_arith (P := Try.prog) w .quo 37 .f64 _ _ _ hfl
            clear hz hQ hfl HR
            go_wp2_with fail
            go_ret2
            exact ⟨rfl, HB4.out⟩

end Go.Proofs.Ythlbeehlcgnggaa
