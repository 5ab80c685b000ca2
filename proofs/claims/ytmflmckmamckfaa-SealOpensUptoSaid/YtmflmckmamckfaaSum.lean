/-
  What the program's own checksum answers: the plain function of the text.
-/
import Derived.Test.YtmflmckmamckfaaNum
import Derived.Test.YtmflmckmamckfaaCrc
import Derived.Deep.LoopGhost
import Derived.Deep.Light
namespace Go.Proofs.Ytmflmckmamckfaa
open Go.RowKit

theorem and_one (x : Nat) (hx : x < 4294967296) : bits .and .u32 (x : Int) 1 = ((x % 2 : Nat) : Int) := by
  have := u32_and_nat x 1 hx (by omega)
  rw [Nat.and_one_is_mod] at this
  exact this
theorem stp_odd (x : Nat) (h : x % 2 = 1) (hx : x < 4294967296) : bits .xor .u32 ((x : Int) / 2) 3988292384 = (Pl.stp x : Int) := by
  have := u32_xor_nat (x / 2) 3988292384 (by omega) (by omega)
  unfold Pl.stp
  rw [if_pos h, ← this]
  rfl
theorem stp_even (x : Nat) (h : x % 2 = 0) : (x : Int) / 2 = (Pl.stp x : Int) := by
  unfold Pl.stp
  rw [if_neg (by omega)]
  omega
theorem not32 (x : Nat) (hx : x < 4294967296) : bits .xor .u32 IntKind.u32.max (x : Int) = ((4294967295 - x : Nat) : Int) := by
  have h := u32_xor_nat 4294967295 x (by omega) hx
  have e : 4294967295 ^^^ x = 4294967295 - x := by
    apply Nat.eq_of_testBit_eq
    intro i
    have h1 := Nat.testBit_two_pow_sub_succ (n := 32) (x := x) hx i
    have h2 := Nat.testBit_two_pow_sub_one 32 i
    simp only [Nat.reducePow, Nat.reduceSub] at h1 h2
    rw [Nat.testBit_xor, h2, show 4294967295 - x = 4294967296 - (x + 1) from by omega, h1]
    by_cases hi : i < 32
    · simp [hi]
    · have : x.testBit i = false := Nat.testBit_lt_two_pow (Nat.lt_of_lt_of_le hx (Nat.pow_le_pow_right (n := 2) (by omega) (by omega : 32 ≤ i)))
      simp [hi, this]
  rw [e] at h
  exact h
theorem crcF_snoc (s : ByteArray) (k x : Nat) (h : k < s.size) : Pl.crcF x (s.data.toList.take (k + 1)) = Pl.byt (Pl.crcF x (s.data.toList.take k)) s[k] := by
  have hl : k < s.data.toList.length := by simpa using h
  rw [List.take_succ_eq_append_getElem hl, Pl.crcF_append]
  rfl

set_option maxRecDepth 100000 in
set_option maxHeartbeats 1000000 in
theorem sum_any (s : ByteArray) (w : World) (hsz : s.size ≤ 9223372036854775807) :
    Calls Try.prog 10 #[.string s] w fun e' w' => e' = .returned (.int .u32 (Pl.crc s.data.toList)) ∧ w = w' := by
  go_enter Try.func10, Try.ntmps10
  go_wp2_with fail
  go_loopg [3, 8] s.size (fun g x i wx => ∃ k X : Nat, wx = w ∧ k ≤ s.size ∧ g = s.size - k ∧ i = .int .i64 k ∧ x = .int .u32 X ∧ X < 4294967296 ∧ Hid (Pl.crcF 4294967295 (s.data.toList.take k) = X))
  case atStart => exact ⟨0, 4294967295, rfl, Nat.zero_le _, rfl, rfl, rfl, by omega, rfl⟩
  case round =>
    obtain ⟨k, X, rfl, hk, rfl, rfl, rfl, hX, hcr⟩ := hrel
    by_cases hlt : k < s.size
    · have hxor : bits .xor .u32 (X : Int) ((s[k].toNat : Int) % 4294967296) = ((X ^^^ s[k].toNat : Nat) : Int) := by
        rw [show (s[k].toNat : Int) % 4294967296 = (s[k].toNat : Int) from by have := s[k].toNat_lt; omega]
        exact u32_xor_nat X s[k].toNat hX (by have := s[k].toNat_lt; omega)
      have hY := Pl.xor_lt32 hX (by have := s[k].toNat_lt; omega : s[k].toNat < 4294967296)
      have hst : Hid (Pl.crcF 4294967295 (s.data.toList.take (k + 1)) = Pl.stps 8 (X ^^^ s[k].toNat)) := by
        show _ = _
        rw [crcF_snoc s k _ hlt, hcr.out]
        rfl
      have i1 : (k : Int) < (s.size : Int) := by omega
      clear hcr
      generalize X ^^^ s[k].toNat = Y at *
      go_wp2_with fail
      go_loopg [3, 17] 8 (fun g x i wx => ∃ j Z : Nat, wx = wr ∧ j ≤ 8 ∧ g = 8 - j ∧ i = .int .i64 j ∧ x = .int .u32 Z ∧ Z < 4294967296 ∧ Hid (Pl.stps j Y = Z))
      case atStart => exact ⟨0, Y, rfl, by omega, rfl, rfl, rfl, hY, rfl⟩
      case round =>
        obtain ⟨j, Z, rfl, hj, rfl, rfl, rfl, hZ, hsj⟩ := hrel
        clear hxor
        by_cases hj8 : j < 8
        · have hz := and_one Z hZ
          have hnx : Hid (Pl.stps (j + 1) Y = Pl.stp Z) := by
            show _ = _
            rw [Pl.stps_snoc, hsj.out]
          clear hsj
          by_cases h2 : Z % 2 = 1
          · have hso := stp_odd Z h2 hZ
            have hzl := Pl.stp_lt hZ
            rw [h2] at hz
            clear h2
            go_wp2_with fail
            go_roundg (8 - (j + 1))
            case rel => exact ⟨j + 1, _, rfl, by omega, rfl, by go_num, rfl, hzl, hnx⟩
            case measure => omega
          · have h2 : Z % 2 = 0 := by omega
            have hso := stp_even Z h2
            have hzl := Pl.stp_lt hZ
            rw [h2] at hz
            clear h2
            go_wp2_with fail
            go_roundg (8 - (j + 1))
            case rel => exact ⟨j + 1, _, rfl, by omega, rfl, by go_num, rfl, hzl, hnx⟩
            case measure => omega
        · obtain rfl : j = 8 := by omega
          go_wp2_with fail
          go_roundg (s.size - (k + 1))
          case rel => exact ⟨k + 1, _, rfl, by omega, rfl, by go_num, rfl, hZ, hst.out.trans hsj.out⟩
          case measure => omega
    · obtain rfl : k = s.size := by omega
      have hn := not32 X hX
      have hall : Hid (Pl.crcF 4294967295 s.data.toList = X) := by
        have := hcr.out
        rw [List.take_of_length_le (by simp)] at this
        exact this
      clear hcr
      go_wp2_with fail
      go_ret
      refine ⟨?_, rfl⟩
      show Ending.returned (.int .u32 ((4294967295 - X : Nat) : Int)) = _
      rw [Pl.crc, hall.out]
end Go.Proofs.Ytmflmckmamckfaa
