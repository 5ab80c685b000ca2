/-
  The parts of a text about its first point; infinity; a float with the sign set.
-/
import Derived.Test.YthlbeehlcgnggaaRb
import Derived.Test.YthlbeehlcgnggaaRk
namespace Go.Proofs.Ythlbeehlcgnggaa
open Go.RowKit

/-- What Cut about a point leaves. -/
def CutPost (w : World) (l : List UInt8) : Ending → World → Prop := fun e w' =>
  ∃ a b : ByteArray, e = .returned (.tuple #[.string a, .string b, .bool (Rf.cut46 l).2.2]) ∧ a.data.toList = (Rf.cut46 l).1 ∧ b.data.toList = (Rf.cut46 l).2.1 ∧ ∃ n, w' = w.drewN n

theorem extract_drop (s : ByteArray) (i : Nat) : (s.extract i s.size).data.toList = s.data.toList.drop i := by
  rw [Lib.extract_data, List.take_of_length_le]
  rw [List.length_drop]
  exact Nat.le_refl _
theorem extract_take (s : ByteArray) (i : Nat) : (s.extract 0 i).data.toList = s.data.toList.take i := by
  rw [Lib.extract_data, List.drop_zero, Nat.sub_zero]

set_option maxRecDepth 100000 in
set_option maxHeartbeats 1000000 in
theorem cutLite_any (s : ByteArray) (hs : s.size ≤ 9223372036854775806) (w : World) :
    Calls Try.prog 34 #[.string s, .string ⟨#[46]⟩] w (CutPost w s.data.toList) := by
  have hx := Try.stringslite_Index_one s 46
  have hge := Lib.indexByte_ge s.data.toList 46
  by_cases h : Lib.indexByte s.data.toList 46 = -1
  · have hc := Rf.cut_none _ h
    rw [h] at hx
    have HC := Lib.hid hc
    clear hc h hge
    unfold CutPost
    go_enter Try.func34, Try.ntmps34
    go_wp2_with (go_at_call 35; refine (hx _).mono ?_; rintro e w' ⟨rfl, rfl⟩)
    go_ret3
    rw [HC.out]
    exact ⟨s, ⟨#[]⟩, rfl, rfl, rfl, 0, rfl⟩
  · obtain ⟨i, hi⟩ : ∃ i : Nat, Lib.indexByte s.data.toList 46 = i := ⟨(Lib.indexByte s.data.toList 46).toNat, by omega⟩
    obtain ⟨h1, hc⟩ := Rf.cut_some _ i hi
    have h1 : i < s.size := by
      have hlen : s.data.toList.length = s.size := Array.length_toList
      omega
    rw [hi] at hx
    have HC := Lib.hid hc
    have c1 : (0 : Int) ≤ (i : Int) := by omega
    have c2 : (i : Int) ≤ (s.size : Int) := by omega
    have c3 : (0 : Int) ≤ (i : Int) + 1 := by omega
    have c4 : (i : Int) + 1 ≤ (s.size : Int) := by omega
    have z1 : (ByteArray.mk #[46]).size = 1 := rfl
    clear hc h hge hi
    unfold CutPost
    go_enter Try.func34, Try.ntmps34
    go_wp2_with (go_at_call 35; refine (hx _).mono ?_; rintro e w' ⟨rfl, rfl⟩)
    go_quiet (fail)
    go_wp2_with fail
    go_ret3
    rw [HC.out]
    exact ⟨_, _, rfl, extract_take s i, extract_drop s (i + 1), _, rfl⟩

set_option maxHeartbeats 1000000 in
theorem cut_any (s : ByteArray) (hs : s.size ≤ 9223372036854775806) (w : World) :
    Calls Try.prog 31 #[.string s, .string ⟨#[46]⟩] w (CutPost w s.data.toList) := by
  have hc := cutLite_any s hs
  unfold CutPost at *
  go_enter Try.func31, Try.ntmps31
  go_wp2_with (go_at_call 34; refine (hc _).mono ?_; rintro e w' ⟨a, b, rfl, ha, hb, n, rfl⟩)
  go_ret3
  exact ⟨a, b, rfl, ha, hb, n, rfl⟩

set_option maxHeartbeats 400000 in
theorem inf_any (w : World) :
    Calls Try.prog 30 #[.int .i64 1] w fun e w' => e = .returned (.float .f64 9218868437227405312) ∧ w' = w := by
  have e1 := from_ext
  go_enter Try.func30, Try.ntmps30
  go_wp2
  go_ret
  exact ⟨rfl, rfl⟩

theorem Rf.andNot_sign (b : Nat) (hb : b < 9223372036854775808) : bits .andNot .u64 (b : Int) 9223372036854775808 = (b : Int) := by
  have h1 : (BitVec.ofInt 64 (b : Int)).toNat = b := by
    rw [BitVec.ofInt_natCast, BitVec.toNat_ofNat]; exact Nat.mod_eq_of_lt (by omega)
  show IntKind.u64.wrap ((BitVec.ofInt 64 (b : Int) &&& ~~~(BitVec.ofInt 64 9223372036854775808)).toNat : Int) = _
  rw [BitVec.toNat_and, h1, show (~~~(BitVec.ofInt 64 9223372036854775808)).toNat = 2 ^ 63 - 1 by decide, Nat.and_two_pow_sub_one_eq_mod, Nat.mod_eq_of_lt hb, IntKind.wrap_u64]
  omega

set_option maxHeartbeats 1000000 in
theorem copysign_any (b : Nat) (hb : b < 9223372036854775808) (w : World) :
    Calls Try.prog 25 #[.float .f64 b, .float .f64 13830554455654793216] w fun e w' => e = .returned (.float .f64 (b + 9223372036854775808)) ∧ w' = w := by
  have e1 := from_ext
  have e2 := bits_ext
  have q1 := Rf.andNot_sign b hb
  have q2 : bits .and .u64 13830554455654793216 9223372036854775808 = 9223372036854775808 := by decide
  have q3 := Rf.or_sign b (.inl hb)
  have q4 : Rf.rank b = b := by unfold Rf.rank; omega
  rw [q4] at q3
  clear q4
  go_enter Try.func25, Try.ntmps25
  go_wp2
  go_ret
  exact ⟨rfl, rfl⟩

end Go.Proofs.Ythlbeehlcgnggaa
