/-
  What the small calls on widths answer, and getBits: the number of so many bits at a place of the bytes.
-/
import Derived.Test.YtokdjaljeckghaaBpPut
namespace Go.Proofs.Ytokdjaljeckghaa
open Go.RowKit

set_option maxHeartbeats 400000 in
theorem inBlock_any (n : Nat) (hn : n ≤ 9223372036854775807) (w : World) :
    Calls Try.prog 42 #[.int .i64 n] w fun e' w' => e' = .returned (.int .i64 (Nat.min n 128 : Nat)) ∧ w = w' := by
  have HW : Hid (min (n : Int) 128 = ((Nat.min n 128 : Nat) : Int)) := by
    show min (n : Int) 128 = ((min n 128 : Nat) : Int)
    omega
  go_enter Try.func42, Try.ntmps42
  go_wp2_with fail
  go_ret
  exact ⟨ret_int HW.out, rfl⟩
set_option maxHeartbeats 400000 in
theorem bitsOf_any (n : Nat) (hn : n < 9223372036854775808) (w : World) :
    Calls Try.prog 59 #[.int .i64 n] w fun e' w' => e' = .returned (.int .i64 (Lib.bitLen n)) ∧ w = w' := by
  go_enter Try.func59, Try.ntmps59
  go_wp2_with (go_at_call 72; refine (Try.bits_Len64 _ _ (by omega) (by omega)).mono ?_; rintro e w' ⟨rfl, rfl⟩)
  go_ret
  exact ⟨rfl, rfl⟩
set_option maxHeartbeats 400000 in
theorem bytesOf_any (m W : Nat) (hm : m ≤ 128) (hW : W ≤ 255) (w : World) :
    Calls Try.prog 60 #[.int .i64 m, .int .i64 W] w fun e' w' => e' = .returned (.int .i64 (Bp.long W m)) ∧ w = w' := by
  have h1 : W * m ≤ 255 * 128 := Nat.mul_le_mul hW hm
  have h2 : (m : Int) * (W : Int) = ((W * m : Nat) : Int) := by rw [Nat.mul_comm]; simp
  have HW : Hid (Bp.long W m = (W * m + 7) / 8) := rfl
  generalize W * m = p at *
  have d1 : ((p : Int) + 7).tdiv 8 = ((Bp.long W m : Nat) : Int) := by rw [HW.out, Int.tdiv_eq_ediv_of_nonneg (by omega)]; omega
  have d2 : ((p : Int) + 7) / 8 = ((Bp.long W m : Nat) : Int) := by rw [HW.out]; omega
  clear HW
  go_enter Try.func60, Try.ntmps60
  go_wp2_with fail
  go_ret
  exact ⟨rfl, rfl⟩
set_option maxHeartbeats 400000 in
theorem blockSize_any (s : ByteArray) (m : Nat) (hs : 0 < s.size) (hm : m ≤ 128) (w : World) :
    Calls Try.prog 68 #[.string s, .int .i64 m] w fun e' w' => e' = .returned (.int .i64 (1 + (Bp.long s[0].toNat m : Int))) ∧ w = w' := by
  have hb : s[0].toNat < 256 := s[0].toNat_lt
  have hc := Lib.hid (bytesOf_any m s[0].toNat hm (by omega))
  have hl : Bp.long s[0].toNat m ≤ 4096 := by
    have h1 : s[0].toNat * m ≤ 255 * 128 := Nat.mul_le_mul (by omega) hm
    unfold Bp.long
    omega
  generalize Bp.long s[0].toNat m = l at *
  go_enter Try.func68, Try.ntmps68
  go_wp2_with (go_at_call 60; refine (hc.out _).mono ?_; rintro e w' ⟨rfl, rfl⟩)
  go_ret
  exact ⟨rfl, rfl⟩

set_option maxRecDepth 100000 in
set_option maxHeartbeats 1000000 in
theorem getBits_any (s : ByteArray) (A W : Nat) (w : World) (hW : W ≤ 63) (hs : A + W ≤ 8 * s.size) (hsz : s.size ≤ 1099511627776) :
    Calls Try.prog 69 #[.string s, .int .i64 A, .int .i64 W] w fun e' w' => e' = .returned (.int .i64 ((Pl.num s.data.toList / 2 ^ A % 2 ^ W : Nat) : Int)) ∧ w = w' := by
  obtain ⟨V, hV⟩ : ∃ V, V = Pl.num s.data.toList := ⟨_, rfl⟩
  have HV := Lib.hid hV
  rw [← hV]
  clear hV
  go_enter Try.func69, Try.ntmps69
  go_wp2_with fail
  go_loopg [7, 8] (W + 8) (fun k x c wx => ∃ (G X : Nat), w = wx ∧ x = .int .u64 (X : Int) ∧ c = .int .i64 (G : Int) ∧ G ≤ W + 7 ∧ k = W + 8 - G ∧ X < 18446744073709551616 ∧ Hid (X = V / 2 ^ A % 2 ^ G % 18446744073709551616))
  case atStart => exact ⟨0, 0, rfl, rfl, rfl, by omega, by omega, by omega, by show _ = _; simp [Nat.mod_one]⟩
  case round =>
    obtain ⟨G, X, rfl, rfl, rfl, hG, rfl, hX, hXe⟩ := hrel
    by_cases hGW : G < W
    · have g1 : (G : Int) < (W : Int) := by omega
      obtain ⟨y, hy⟩ : ∃ y, y = (A + G) / 8 := ⟨_, rfl⟩
      obtain ⟨r, hr⟩ : ∃ r, r = (A + G) % 8 := ⟨_, rfl⟩
      have hys : y < s.size := by omega
      have y1 : (y : Int) < (s.size : Int) := by omega
      have r8 : r < 8 := by omega
      have m1 : ((A : Int) + (G : Int)).tdiv 8 = (y : Int) := by rw [Int.tdiv_eq_ediv_of_nonneg (by omega)]; omega
      have m2 : ((A : Int) + (G : Int)).tmod 8 = (r : Int) := by rw [Int.tmod_eq_emod_of_nonneg (by omega)]; omega
      have m3 : ((A : Int) + (G : Int)) / 8 = (y : Int) := by omega
      have m4 : ((A : Int) + (G : Int)) % 8 = (r : Int) := by omega
      have hb0 : s[y].toNat < 256 := s[y].toNat_lt
      have hget : s[y].toNat / 2 ^ r = V / 2 ^ (A + G) % 2 ^ (8 - r) := by
        have hl : y < s.data.toList.length := by simpa using hys
        have h := Bp.num_cel s.data.toList y hl
        rw [← HV.out] at h
        have h2 := Bp.get_byte V y r _ h r8
        rw [show 8 * y + r = A + G from by omega] at h2
        exact h2
      have hdv : (s[y].toNat : Int) / 2 ^ r = ((s[y].toNat / 2 ^ r : Nat) : Int) := by simp
      have hor : bits .or .u64 (X : Int) (IntKind.u64.wrap (((s[y].toNat / 2 ^ r : Nat) : Int) * 2 ^ G)) = ((V / 2 ^ A % 2 ^ (G + (8 - r)) % 18446744073709551616 : Nat) : Int) := by
        rw [IntKind.wrap_u64, show ((s[y].toNat / 2 ^ r : Nat) : Int) * 2 ^ G % 18446744073709551616 = ((s[y].toNat / 2 ^ r * 2 ^ G % 18446744073709551616 : Nat) : Int) from by simp, u64_or_nat _ _ hX (by omega), ← Bp.get_or V A G r _ (by omega) hget, ← hXe.out]
      obtain ⟨X2, hX2⟩ : ∃ X2, X2 = V / 2 ^ A % 2 ^ (G + (8 - r)) % 18446744073709551616 := ⟨_, rfl⟩
      rw [← hX2] at hor
      have HX2 := Lib.hid hX2
      have hX2l : X2 < 18446744073709551616 := by omega
      have hbr : s[y].toNat / 2 ^ r < 256 := Nat.lt_of_le_of_lt (Nat.div_le_self _ _) hb0
      clear hX2 hget hXe hy hr
      generalize s[y].toNat / 2 ^ r = br at *
      obtain ⟨t, ht⟩ : ∃ t, t = 8 - r := ⟨_, rfl⟩
      have t1 : (8 : Int) - (r : Int) = (t : Int) := by omega
      have t2 : t ≤ 8 ∧ 1 ≤ t := by omega
      rw [← ht] at HX2
      clear ht
      obtain ⟨t8, t0⟩ := t2
      go_wp2_with fail
      go_roundg (W + 8 - (G + t))
      case rel => exact ⟨G + t, X2, rfl, by first | rfl | go_num, by go_num, by omega, rfl, hX2l, HX2⟩
      case measure => omega
    · have g1 : ¬ (G : Int) < (W : Int) := by omega
      have hp : 2 ^ W ≤ 9223372036854775808 := by simpa using Nat.pow_le_pow_right (n := 2) (by omega) hW
      have hp0 := Nat.two_pow_pos W
      have hand : bits .and .u64 (X : Int) ((2 ^ W - 1 : Nat) : Int) = ((V / 2 ^ A % 2 ^ W : Nat) : Int) := by
        rw [u64_and_nat _ _ hX (by omega), hXe.out, Bp.get_done _ G W hW (by omega)]
      have hlt : V / 2 ^ A % 2 ^ W < 9223372036854775808 := Nat.lt_of_lt_of_le (Nat.mod_lt _ hp0) hp
      have HE : Hid (wrap64 (bits .and .u64 (X : Int) (IntKind.u64.wrap (IntKind.u64.wrap (2 ^ W) - 1))) = ((V / 2 ^ A % 2 ^ W : Nat) : Int)) := by
        show _ = _
        have e1 : IntKind.u64.wrap (2 ^ W) = ((2 ^ W : Nat) : Int) := by
          rw [IntKind.wrap_u64, show (2 : Int) ^ W = ((2 ^ W : Nat) : Int) from by simp]
          omega
        have e2 : IntKind.u64.wrap (((2 ^ W : Nat) : Int) - 1) = ((2 ^ W - 1 : Nat) : Int) := by
          rw [IntKind.wrap_u64]
          omega
        rw [e1, e2, hand]
        generalize V / 2 ^ A % 2 ^ W = R at *
        unfold wrap64
        omega
      clear hXe hand hlt hp hp0
      go_wp2_with fail
      go_ret
      exact ⟨ret_int (HE.out.trans (by simp)), rfl⟩
end Go.Proofs.Ytokdjaljeckghaa
