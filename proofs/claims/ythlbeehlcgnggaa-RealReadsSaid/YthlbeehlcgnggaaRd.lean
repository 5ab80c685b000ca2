/-
  The given package: the digits at the beginning of a text.
-/
import Derived.Test.YthlbeehlcgnggaaRy
namespace Go.Proofs.Ythlbeehlcgnggaa
open Go.RowKit

theorem lead_lt_digit (m : Nat) (l : List UInt8) (k : Nat) (h : k < Rf.lead m l) (hl : k < l.length) : Rf.isD l[k] = true := by
  have h1 := Rf.lead_digits m l
  have h2 : k < (l.take (Rf.lead m l)).length := by rw [List.length_take]; omega
  have h3 := List.all_eq_true.1 h1 _ (List.getElem_mem h2)
  rwa [List.getElem_take] at h3
theorem lead_end (m : Nat) (l : List UInt8) : Rf.lead m l = l.length ∨ Rf.lead m l = m ∨ ∃ h : Rf.lead m l < l.length, Rf.isD l[Rf.lead m l] = false := by
  have h1 := (Rf.lead_le m l).2
  by_cases h : Rf.lead m l < l.length
  · right
    have := Rf.lead_stop m l l[Rf.lead m l] (l.drop (Rf.lead m l + 1)) (List.drop_eq_getElem_cons h)
    rcases this with h2 | h2
    · exact .inl h2
    · exact .inr ⟨h, h2⟩
  · left; omega
theorem dec_lead_lt (m : Nat) (l : List UInt8) (k : Nat) (hm : m ≤ 15) (hk : k ≤ Rf.lead m l) : Rf.dec 0 (l.take k) < 1000000000000000 := by
  have h1 := Rf.lead_digits m l
  have h2 := dec_take_lt (l.take (Rf.lead m l)) k h1 (by rw [List.length_take]; have := Rf.lead_le m l; omega)
  rwa [List.take_take, Nat.min_eq_left hk] at h2

set_option maxRecDepth 100000 in
set_option maxHeartbeats 2000000 in
theorem digits_any (s : ByteArray) (hs : s.size ≤ 9223372036854775806) (most : Nat) (hm : most ≤ 15) (w : World) :
    Calls Try.prog 27 #[.string s, .int .i64 most] w fun e w' => e = .returned (.tuple #[.int .i64 (Rf.lead most s.data.toList : Nat), .int .u64 (Rf.dec 0 (s.data.toList.take (Rf.lead most s.data.toList)) : Nat)]) ∧ w' = w := by
  have hlen : s.data.toList.length = s.size := Array.length_toList
  have hle := Rf.lead_le most s.data.toList
  have hend := lead_end most s.data.toList
  have hdig := lead_lt_digit most s.data.toList
  have hdec := fun k => dec_lead_lt most s.data.toList k hm
  rw [hlen] at hle
  generalize Rf.lead most s.data.toList = K at *
  have HL := Lib.hid hlen
  have HE := Lib.hid hend
  have HG := Lib.hid hdig
  have HD := Lib.hid hdec
  clear hlen hend hdig hdec
  obtain ⟨R, hR⟩ : ∃ R, Rf.dec 0 (s.data.toList.take K) = R := ⟨_, rfl⟩
  rw [hR]
  have HR := Lib.hid hR
  clear hR
  obtain ⟨hk1, hk2⟩ := hle
  go_enter Try.func27, Try.ntmps27
  go_wp2_with fail
  go_loopg [6, 7] K (fun g vn vx wx => ∃ k x : Nat, k ≤ K ∧ g = K - k ∧ vn = .int .i64 k ∧ vx = .int .u64 x ∧ Hid (x = Rf.dec 0 (s.data.toList.take k)) ∧ x < 1000000000000000 ∧ wx = w)
  case atStart => exact ⟨0, 0, Nat.zero_le _, rfl, rfl, rfl, by show _ = _; rw [List.take_zero]; rfl, by omega, rfl⟩
  case round =>
    obtain ⟨k, x, hk, rfl, rfl, rfl, hS, hx, rfl⟩ := hrel
    by_cases hkn : k < K
    · have ks : k < s.size := by omega
      have km : k < most := by omega
      have hE : 48 ≤ s[k].toNat ∧ s[k].toNat ≤ 57 := digit_bounds s[k] _ rfl (HG.out k hkn (by rw [HL.out]; exact ks))
      obtain ⟨d1, d2⟩ := hE
      have hst : Hid (10 * x + (s[k].toNat - 48) = Rf.dec 0 (s.data.toList.take (k + 1))) := by
        show _ = _
        rw [dec_snoc _ k (by rw [HL.out]; exact ks), hS.out]
        rfl
      have hx2 : 10 * x + (s[k].toNat - 48) < 1000000000000000 := by
        rw [hst.out]
        exact HD.out (k + 1) (by omega)
      clear hS
      go_wp2_with fail
      go_roundg (K - (k + 1))
      case rel => exact ⟨k + 1, 10 * x + (s[k].toNat - 48), by omega, rfl, by go_num, by go_num, hst, hx2, rfl⟩
      case measure => omega
    · obtain rfl : k = K := by omega
      obtain rfl : x = R := by rw [← HR.out, hS.out]
      clear hS HR
      by_cases hks : k < s.size
      · by_cases hkm : k < most
        · have hE : Rf.isD s[k] = false := by
            rcases HE.out with h | h | ⟨h, h2⟩
            · rw [HL.out] at h; omega
            · omega
            · exact h2
          rw [isD_of s[k] _ rfl] at hE
          have hE := of_decide_eq_false hE
          by_cases d1 : 48 ≤ s[k].toNat
          · have d2 : ¬ s[k].toNat ≤ 57 := fun h => hE ⟨d1, h⟩
            clear hE
            go_wp2_with fail
            go_ret2
            exact ⟨rfl, rfl⟩
          · clear hE
            go_wp2_with fail
            go_ret2
            exact ⟨rfl, rfl⟩
        · go_wp2_with fail
          go_ret2
          exact ⟨rfl, rfl⟩
      · go_wp2_with fail
        go_ret2
        exact ⟨rfl, rfl⟩

end Go.Proofs.Ythlbeehlcgnggaa
