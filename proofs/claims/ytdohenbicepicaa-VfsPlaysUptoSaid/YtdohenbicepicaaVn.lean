/-
  What the given disk's Name and Mix answer, and link.
-/
import Derived.Test.YtdohenbicepicaaVm
import Derived.ProofKit
namespace Go.Proofs.Ytdohenbicepicaa
open Go.RowKit

theorem ret_bool {a b : Bool} (h : a = b) : Ending.returned (.bool a) = .returned (.bool b) := by rw [h]

set_option maxRecDepth 100000 in
set_option maxHeartbeats 2000000 in
theorem nameR_any (w : World) (s : ByteArray) :
    Calls Try.prog 38 #[.string s] w fun e' w' => e' = .returned (.bool (Vf.okN s)) ∧ w = w' := by
  have hl : s.data.toList.length = s.size := by simp
  by_cases h1 : 1 ≤ s.size
  · by_cases h40 : s.size ≤ 40
    · have i1 : ¬ (s.size : Int) < 1 := by omega
      have i2 : ¬ (40 : Int) < (s.size : Int) := by omega
      have hok : Hid (Vf.okN s = (s.data.toList.drop 0).all Vf.okC) := by
        show _ = _
        unfold Vf.okN
        rw [decide_eq_true ⟨h1, h40⟩, Bool.true_and, List.drop_zero]
      clear h1
      go_enter Try.func38, Try.ntmps38
      go_wp2_with fail
      go_loopg [3] s.size (fun g i wx => ∃ k : Nat, w = wx ∧ k ≤ s.size ∧ g = s.size - k ∧ i = .int .i64 (k : Int) ∧ Hid (Vf.okN s = (s.data.toList.drop k).all Vf.okC))
      case atStart => exact ⟨0, rfl, Nat.zero_le _, rfl, rfl, hok⟩
      case round =>
        clear hok
        obtain ⟨k, rfl, hk, rfl, rfl, hf⟩ := hrel
        by_cases hkn : k < s.size
        · have j1 : (k : Int) < (s.size : Int) := by omega
          have kl : k < s.data.toList.length := by rw [hl]; exact hkn
          have hd : (s.data.toList.drop k).all Vf.okC = (Vf.okC s[k] && (s.data.toList.drop (k + 1)).all Vf.okC) := by
            rw [List.drop_eq_getElem_cons kl, List.all_cons]
            rfl
          have hb : s[k].toNat < 256 := s[k].toNat_lt
          by_cases hc : Vf.okC s[k] = true
          · have hst : Hid (Vf.okN s = (s.data.toList.drop (k + 1)).all Vf.okC) := by show _ = _; rw [hf.out, hd, hc, Bool.true_and]
            unfold Vf.okC at hc
            simp only [Bool.or_eq_true, decide_eq_true_eq] at hc
            clear hf hd
            rcases hc with ((⟨c1, c2⟩ | ⟨c1, c2⟩) | hc) | hc
            · have d1 : (97 : Int) ≤ (s[k].toNat : Int) := by omega
              have d2 : (s[k].toNat : Int) ≤ 122 := by omega
              go_wp2_with fail
              go_roundg (s.size - (k + 1))
              case rel => exact ⟨k + 1, rfl, by omega, rfl, by go_num, hst⟩
              case measure => omega
            · have d1 : ¬ (97 : Int) ≤ (s[k].toNat : Int) := by omega
              have d2 : (48 : Int) ≤ (s[k].toNat : Int) := by omega
              have d3 : (s[k].toNat : Int) ≤ 57 := by omega
              go_wp2_with fail
              go_roundg (s.size - (k + 1))
              case rel => exact ⟨k + 1, rfl, by omega, rfl, by go_num, hst⟩
              case measure => omega
            · have d1 : ¬ (97 : Int) ≤ (s[k].toNat : Int) := by omega
              have d2 : (48 : Int) ≤ (s[k].toNat : Int) := by omega
              have d3 : ¬ (s[k].toNat : Int) ≤ 57 := by omega
              have d4 : ((s[k].toNat : Int) == 95) = true := by simp; omega
              clear hc
              go_wp2_with fail
              go_roundg (s.size - (k + 1))
              case rel => exact ⟨k + 1, rfl, by omega, rfl, by go_num, hst⟩
              case measure => omega
            · have d1 : ¬ (97 : Int) ≤ (s[k].toNat : Int) := by omega
              have d2 : ¬ (48 : Int) ≤ (s[k].toNat : Int) := by omega
              have d4 : ((s[k].toNat : Int) == 95) = false := by simp; omega
              have d5 : ((s[k].toNat : Int) == 46) = true := by simp; omega
              clear hc
              go_wp2_with fail
              go_roundg (s.size - (k + 1))
              case rel => exact ⟨k + 1, rfl, by omega, rfl, by go_num, hst⟩
              case measure => omega
          · have hfin : Hid (Vf.okN s = false) := by
              show _ = _
              rw [hf.out, hd]
              simp [hc]
            unfold Vf.okC at hc
            simp only [Bool.or_eq_true, decide_eq_true_eq] at hc
            clear hf hd
            have d4 : ((s[k].toNat : Int) == 95) = false := by simp; omega
            have d5 : ((s[k].toNat : Int) == 46) = false := by simp; omega
            by_cases c1 : 97 ≤ s[k].toNat
            · have d1 : (97 : Int) ≤ (s[k].toNat : Int) := by omega
              have d2 : ¬ (s[k].toNat : Int) ≤ 122 := by omega
              have d3 : (48 : Int) ≤ (s[k].toNat : Int) := by omega
              have d6 : ¬ (s[k].toNat : Int) ≤ 57 := by omega
              clear hc
              go_wp2_with fail
              go_ret
              exact ⟨by rw [hfin.out]; rfl, rfl⟩
            · by_cases c2 : 48 ≤ s[k].toNat
              · have d1 : ¬ (97 : Int) ≤ (s[k].toNat : Int) := by omega
                have d3 : (48 : Int) ≤ (s[k].toNat : Int) := by omega
                have d6 : ¬ (s[k].toNat : Int) ≤ 57 := by omega
                clear hc
                go_wp2_with fail
                go_ret
                exact ⟨by rw [hfin.out]; rfl, rfl⟩
              · have d1 : ¬ (97 : Int) ≤ (s[k].toNat : Int) := by omega
                have d3 : ¬ (48 : Int) ≤ (s[k].toNat : Int) := by omega
                clear hc
                go_wp2_with fail
                go_ret
                exact ⟨by rw [hfin.out]; rfl, rfl⟩
        · have hfin : Hid (Vf.okN s = true) := by
            show _ = _
            rw [hf.out, List.drop_of_length_le (by rw [hl]; omega)]
            rfl
          clear hf
          go_wp2_with fail
          go_ret
          exact ⟨by rw [hfin.out]; rfl, rfl⟩
    · have hfin : Hid (Vf.okN s = false) := by
        show _ = _
        unfold Vf.okN
        rw [decide_eq_false (by omega), Bool.false_and]
      have i1 : ¬ (s.size : Int) < 1 := by omega
      have i2 : (40 : Int) < (s.size : Int) := by omega
      go_enter Try.func38, Try.ntmps38
      go_wp2_with fail
      go_ret
      exact ⟨by rw [hfin.out]; rfl, rfl⟩
  · have hfin : Hid (Vf.okN s = false) := by
      show _ = _
      unfold Vf.okN
      rw [decide_eq_false (by omega), Bool.false_and]
    have i1 : (s.size : Int) < 1 := by omega
    go_enter Try.func38, Try.ntmps38
    go_wp2_with fail
    go_ret
    exact ⟨by rw [hfin.out]; rfl, rfl⟩

theorem u64_mul (a b : Nat) : IntKind.u64.wrap ((a : Int) * (b : Int)) = ((Vf.m64 (a * b) : Nat) : Int) := by
  rw [IntKind.wrap_u64]
  unfold Vf.m64
  simp
set_option maxRecDepth 100000 in
set_option maxHeartbeats 1000000 in
theorem mixR_any (w : World) (a k : Nat) :
    Calls Try.prog 62 #[.int .u64 a, .int .u64 k] w fun e' w' => e' = .returned (.int .u64 (Vf.mix a k)) ∧ w = w' := by
  obtain ⟨p, hp⟩ : ∃ p, p = Vf.m64 (k * 11400714819323198485) := ⟨_, rfl⟩
  have e1 : IntKind.u64.wrap ((k : Int) * 11400714819323198485) = (p : Int) := by rw [hp]; exact u64_mul k 11400714819323198485
  obtain ⟨x, hx⟩ : ∃ x, x = Vf.m64 (a + p) := ⟨_, rfl⟩
  have e2 : IntKind.u64.wrap ((a : Int) + (p : Int)) = (x : Int) := by rw [hx, IntKind.wrap_u64]; unfold Vf.m64; simp
  have hx64 : x < 18446744073709551616 := by rw [hx]; exact Nat.mod_lt _ (by omega)
  have e3 : bits .xor .u64 (x : Int) (((x / 1073741824 : Nat)) : Int) = ((x ^^^ x / 1073741824 : Nat) : Int) := u64_xor_nat _ _ hx64 (by omega)
  obtain ⟨y, hy⟩ : ∃ y, y = Vf.m64 ((x ^^^ x / 1073741824) * 13787848793156543929) := ⟨_, rfl⟩
  have e4 : IntKind.u64.wrap (((x ^^^ x / 1073741824 : Nat) : Int) * 13787848793156543929) = (y : Int) := by rw [hy]; exact u64_mul _ 13787848793156543929
  have hy64 : y < 18446744073709551616 := by rw [hy]; exact Nat.mod_lt _ (by omega)
  have e5 : bits .xor .u64 (y : Int) (((y / 134217728 : Nat)) : Int) = ((y ^^^ y / 134217728 : Nat) : Int) := u64_xor_nat _ _ hy64 (by omega)
  obtain ⟨z, hz⟩ : ∃ z, z = Vf.m64 ((y ^^^ y / 134217728) * 10723151780598845931) := ⟨_, rfl⟩
  have e6 : IntKind.u64.wrap (((y ^^^ y / 134217728 : Nat) : Int) * 10723151780598845931) = (z : Int) := by rw [hz]; exact u64_mul _ 10723151780598845931
  have hz64 : z < 18446744073709551616 := by rw [hz]; exact Nat.mod_lt _ (by omega)
  have e7 : bits .xor .u64 (z : Int) (((z / 2147483648 : Nat)) : Int) = ((z ^^^ z / 2147483648 : Nat) : Int) := u64_xor_nat _ _ hz64 (by omega)
  have hm : Hid (Vf.mix a k = z ^^^ z / 2147483648) := by
    show _ = _
    unfold Vf.mix
    simp only [← hp, ← hx, ← hy, ← hz]
  clear hp hx hy hz
  have q1 : ((x : Int)).tdiv 1073741824 = ((x / 1073741824 : Nat) : Int) := by rw [Int.tdiv_eq_ediv_of_nonneg (by omega)]; omega
  have q2 : ((y : Int)).tdiv 134217728 = ((y / 134217728 : Nat) : Int) := by rw [Int.tdiv_eq_ediv_of_nonneg (by omega)]; omega
  have q3 : ((z : Int)).tdiv 2147483648 = ((z / 2147483648 : Nat) : Int) := by rw [Int.tdiv_eq_ediv_of_nonneg (by omega)]; omega
  have r1 : (x : Int) / 1073741824 = ((x / 1073741824 : Nat) : Int) := by omega
  have r2 : (y : Int) / 134217728 = ((y / 134217728 : Nat) : Int) := by omega
  have r3 : (z : Int) / 2147483648 = ((z / 2147483648 : Nat) : Int) := by omega
  generalize x ^^^ x / 1073741824 = xx at *
  generalize y ^^^ y / 134217728 = yy at *
  generalize z ^^^ z / 2147483648 = zz at *
  generalize x / 1073741824 = xd at *
  generalize y / 134217728 = yd at *
  generalize z / 2147483648 = zd at *
  go_enter Try.func62, Try.ntmps62
  go_wp2_with fail
  go_ret
  exact ⟨by rw [hm.out]; rfl, rfl⟩
end Go.Proofs.Ytdohenbicepicaa
