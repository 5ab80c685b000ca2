/-
  What the readers and writers of numbers answer, call by call, as plain functions of their arguments.
-/
import Derived.Test.YtoppgecajibelaaPlain
import Derived.Test.YtoppgecajibelaaShelf
import Derived.WalkKit
import Derived.WalkSpells
import Derived.WalkLawsBesides
import Derived.IntWalk
import Derived.Lib.Hide
import Derived.Laws.DeepNot64
namespace Go.Proofs.Ytoppgecajibelaa
open Go.RowKit

theorem ret_int {k : IntKind} {a b : Int} (h : a = b) : Ending.returned (.int k a) = .returned (.int k b) := by rw [h]

set_option maxHeartbeats 400000 in
theorem width_any (m : Nat) (w : World) (hm : m < 18446744073709551616) :
    Calls Try.prog 35 #[.int .u64 m] w fun e w' => e = .returned (.int .i64 (Pl.wid m)) ∧ w = w' := by
  have hb := Pl.bitLen_le m
  have hw := Pl.wid_bitLen m
  have HW : Hid (max 1 (((Lib.bitLen m : Int) + 7) / 8) = (Pl.wid m : Int)) := by
    show _ = _
    rw [← hw]
    show _ = ((max 1 ((Lib.bitLen m + 7) / 8) : Nat) : Int)
    omega
  clear hw
  go_enter Try.func35, Try.ntmps35
  go_wp2_with (go_at_call 38; refine (Try.bits_Len64 _ _ (by omega) (by omega)).mono ?_; rintro e w' ⟨rfl, rfl⟩)
  go_ret
  exact ⟨ret_int HW.out, rfl⟩

set_option maxHeartbeats 400000 in
theorem readWide_far (s : ByteArray) (f a : Nat) (w : World) (h0 : 0 < s.size) (hx : bits .xor .u8 (s[0].toNat : Int) (f : Int) = (a : Int)) (ha : 247 < a) (ha2 : a < 256) :
    Calls Try.prog 39 #[.string s, .int .u8 f] w fun e w' => e = .returned (.tuple #[.int .i64 0, .int .i64 0, .int .i64 3]) ∧ w = w' := by
  go_enter Try.func39, Try.ntmps39
  go_wp2_with fail
  go_ret3
  exact ⟨rfl, rfl⟩
set_option maxHeartbeats 400000 in
theorem readWide_short (s : ByteArray) (f k : Nat) (w : World) (h0 : 0 < s.size) (hsz : s.size ≤ 9223372036854775807) (hx : bits .xor .u8 (s[0].toNat : Int) (f : Int) = (k : Int) + 239) (hk8 : k ≤ 8) (hk : s.size ≤ k) :
    Calls Try.prog 39 #[.string s, .int .u8 f] w fun e w' => e = .returned (.tuple #[.int .i64 0, .int .i64 0, .int .i64 2]) ∧ w = w' := by
  go_enter Try.func39, Try.ntmps39
  go_wp2_with fail
  go_ret3
  exact ⟨rfl, rfl⟩
theorem or_byte (m b : Nat) (hm : m < 72057594037927936) (hb : b < 256) :
    bits .or .u64 (IntKind.u64.wrap ((m : Int) * 256)) (IntKind.u64.wrap (b : Int)) = ((256 * m + b : Nat) : Int) := by
  rw [IntKind.wrap_u64, IntKind.wrap_u64, show (m : Int) * 256 % 18446744073709551616 = ((256 * m : Nat) : Int) from by omega, show (b : Int) % 18446744073709551616 = (b : Int) from by omega, u64_or_nat _ _ (by omega) (by omega)]
  rw [nat_join 8 (256 * m) b (by simp [Nat.mul_mod_right]) (by simpa using hb)]
theorem tail_take (s : ByteArray) (j : Nat) (h : j + 1 < s.size) : s.data.toList.tail.take (j + 1) = s.data.toList.tail.take j ++ [s[j+1]] := by
  have hl : j < s.data.toList.tail.length := by simp; omega
  rw [List.take_succ_eq_append_getElem hl]
  simp
  rfl
theorem val_bound (f : Nat) (hf : f < 256) (l : List UInt8) (j n : Nat) (hn : j ≤ n) : Pl.val f (l.take j) 0 < 256 ^ n := by
  have h := Pl.val_lt f hf (l.take j) 0 0 (by simp)
  have hl : (l.take j).length ≤ j := List.length_take_le _ _
  exact Nat.lt_of_lt_of_le h (Nat.pow_le_pow_right (by omega) (by omega))
set_option maxHeartbeats 1000000 in
theorem readWide_loop (s : ByteArray) (f k : Nat) (w : World) (hf : f < 256) (h0 : 0 < s.size) (hsz : s.size ≤ 9223372036854775807) (hx : bits .xor .u8 (s[0].toNat : Int) (f : Int) = (k : Int) + 239) (hk1 : 1 ≤ k) (hk8 : k ≤ 8) (hk : k < s.size)
    (n z e : Int) (hr : (if Pl.wid (Pl.val f (s.data.toList.tail.take k) 0) < k ∨ 9223372036854775695 < Pl.val f (s.data.toList.tail.take k) 0 then ((0, 0, 3) : Int × Int × Int) else ((Pl.val f (s.data.toList.tail.take k) 0 : Int) + 112, 1 + (k : Int), 0)) = (n, z, e)) :
    Calls Try.prog 39 #[.string s, .int .u8 f] w fun e' w' => e' = .returned (.tuple #[.int .i64 n, .int .i64 z, .int .i64 e]) ∧ w = w' := by
  have HR := Lib.hid hr
  clear hr
  go_enter Try.func39, Try.ntmps39
  go_wp2_with fail
  go_loop [8, 9] (fun m i => ∃ j : Nat, j ≤ k ∧ i = .int .i64 ((j : Int) + 1) ∧ m = .int .u64 (Pl.val f (s.data.toList.tail.take j) 0)) (fun _ i => k + 1 - (intOf i).toNat)
  case atStart => exact ⟨0, Nat.zero_le _, rfl, rfl⟩
  case round =>
    obtain ⟨j, hj, rfl, rfl⟩ := hrel
    by_cases hlt : j < k
    · have hi : j + 1 < s.size := by omega
      have hxor := u8_xor_nat s[j+1].toNat f s[j+1].toNat_lt hf
      have hst : Hid (Pl.val f (s.data.toList.tail.take (j + 1)) 0 = 256 * Pl.val f (s.data.toList.tail.take j) 0 + (s[j+1].toNat ^^^ f)) := by
        show _ = _
        rw [tail_take s j hi, Pl.val_snoc]
      have hv : Hid (Pl.val f (s.data.toList.tail.take j) 0 < 72057594037927936) := val_bound f hf _ j 7 (by omega)
      have hb : Hid (s[j+1].toNat ^^^ f < 256) := Pl.xor_lt _ _ hf
      go_wp2_with fail
      go_round
      case rel => exact ⟨j + 1, by omega, by go_num, by rw [hst.out, or_byte _ _ hv.out hb.out]⟩
      case measure => simp [intOf]; omega
    · obtain rfl : j = k := by omega
      have hb : Pl.val f (s.data.toList.tail.take j) 0 < 18446744073709551616 := val_bound f hf _ j 8 hk8
      have hwl := Pl.wid_le (Pl.val f (s.data.toList.tail.take j) 0)
      have hr := HR.out
      clear HR
      generalize Pl.val f (s.data.toList.tail.take j) 0 = m at *
      generalize hv : Pl.wid m = v at *
      have HV := Lib.hid hv
      clear hv
      by_cases h1 : v < j
      · rw [if_pos (Or.inl h1)] at hr
        obtain ⟨rfl, rfl, rfl⟩ : 0 = n ∧ 0 = z ∧ 3 = e := by simpa using hr
        clear hr
        go_wp2_with (refine (width_any m _ hb).mono ?_; rintro e w' ⟨rfl, rfl⟩; rw [HV.out])
        go_ret3
        exact ⟨rfl, rfl⟩
      · by_cases h2 : 9223372036854775695 < m
        · rw [if_pos (Or.inr h2)] at hr
          obtain ⟨rfl, rfl, rfl⟩ : 0 = n ∧ 0 = z ∧ 3 = e := by simpa using hr
          clear hr
          go_wp2_with (refine (width_any m _ hb).mono ?_; rintro e w' ⟨rfl, rfl⟩; rw [HV.out])
          go_ret3
          exact ⟨rfl, rfl⟩
        · rw [if_neg (by omega)] at hr
          obtain ⟨rfl, rfl, rfl⟩ : (m : Int) + 112 = n ∧ 1 + (j : Int) = z ∧ 0 = e := by simpa using hr
          clear hr
          go_wp2_with (refine (width_any m _ hb).mono ?_; rintro e w' ⟨rfl, rfl⟩; rw [HV.out])
          go_ret3
          exact ⟨rfl, rfl⟩
theorem readWide_any (s : ByteArray) (f : Nat) (w : World) (hf : f < 256) (h0 : 0 < s.size) (hsz : s.size ≤ 9223372036854775807) (ha : 240 ≤ s[0].toNat ^^^ f) (n z e : Int) (hr : Pl.rdWide s[0] s.data.toList.tail f = (n, z, e)) :
    Calls Try.prog 39 #[.string s, .int .u8 f] w fun e' w' => e' = .returned (.tuple #[.int .i64 n, .int .i64 z, .int .i64 e]) ∧ w = w' := by
  have hx := u8_xor_nat s[0].toNat f s[0].toNat_lt hf
  have hlt := Pl.xor_lt s[0] f hf
  have hlen : s.data.toList.tail.length = s.size - 1 := by simp
  unfold Pl.rdWide at hr
  rw [hlen] at hr
  generalize s[0].toNat ^^^ f = a at *
  by_cases h1 : 247 < a
  · rw [if_pos h1] at hr
    obtain ⟨rfl, rfl, rfl⟩ : 0 = n ∧ 0 = z ∧ 3 = e := by simpa using hr
    exact readWide_far s f a w h0 hx h1 hlt
  · rw [if_neg h1] at hr
    obtain ⟨k, rfl⟩ : ∃ k, a = k + 239 := ⟨a - 239, by omega⟩
    rw [Nat.add_sub_cancel] at hr
    have hx' : bits .xor .u8 (s[0].toNat : Int) (f : Int) = (k : Int) + 239 := by rw [hx]; omega
    by_cases h2 : s.size - 1 < k
    · rw [if_pos h2] at hr
      obtain ⟨rfl, rfl, rfl⟩ : 0 = n ∧ 0 = z ∧ 2 = e := by simpa using hr
      exact readWide_short s f k w h0 hsz hx' (by omega) (by omega)
    · rw [if_neg h2] at hr
      refine readWide_loop s f k w hf h0 hsz hx' (by omega) (by omega) (by omega) n z e ?_
      rw [← hr, show ((k + 239 : Nat) : Int) - 238 = 1 + (k : Int) from by omega]

theorem rdNum_cons (s : ByteArray) (h0 : 0 < s.size) : Pl.rdNum s.data.toList = (if s[0].toNat ^^^ Pl.flipOf s[0] < 240 then Pl.back (Pl.flipOf s[0]) (((s[0].toNat ^^^ Pl.flipOf s[0] : Nat) : Int) - 128, 1, 0)
    else Pl.back (Pl.flipOf s[0]) (Pl.rdWide s[0] s.data.toList.tail (Pl.flipOf s[0]))) := by
  have hl : 0 < s.data.toList.length := by simpa using h0
  have h : s.data.toList = s[0] :: s.data.toList.tail := by
    rw [← List.cons_head_tail (List.ne_nil_of_length_pos hl)]
    congr 1
    rw [List.head_eq_getElem]
    rfl
  conv => lhs; rw [h]
  rfl

theorem empty_true (s : ByteArray) (h : s.size = 0) : s.toList.isEmpty = true := by
  rw [ByteArray.toList_eq]
  have : s.data.toList.length = 0 := by simpa using h
  simpa using List.length_eq_zero_iff.1 this
theorem empty_false (s : ByteArray) (h : 0 < s.size) : s.toList.isEmpty = false := by
  rw [ByteArray.toList_eq]
  have h2 : 0 < s.data.toList.length := by simpa using h
  cases hl : s.data.toList with
  | nil => rw [hl] at h2; simp at h2
  | cons c t => rfl
/-- What wide numbers are bounded by. -/
theorem rdWide_bd (c : UInt8) (t : List UInt8) (f : Nat) (n z e : Int) (h : Pl.rdWide c t f = (n, z, e)) (hc : c.toNat ^^^ f < 256) (hc2 : 240 ≤ c.toNat ^^^ f) :
    (0 ≤ n ∧ n ≤ 9223372036854775807) ∧ (0 ≤ z ∧ z ≤ t.length + 1) ∧ (e = 0 ∨ e = 2 ∨ e = 3) ∧ (e ≠ 0 → n = 0 ∧ z = 0) := by
  unfold Pl.rdWide at h
  generalize Pl.wid (Pl.val f (List.take ((c.toNat ^^^ f) - 239) t) 0) = v at *
  generalize Pl.val f (List.take ((c.toNat ^^^ f) - 239) t) 0 = m at *
  generalize c.toNat ^^^ f = a at *
  by_cases h1 : 247 < a
  · rw [if_pos h1] at h
    obtain ⟨rfl, rfl, rfl⟩ : 0 = n ∧ 0 = z ∧ 3 = e := by simpa using h
    omega
  · rw [if_neg h1] at h
    by_cases h2 : t.length < a - 239
    · rw [if_pos h2] at h
      obtain ⟨rfl, rfl, rfl⟩ : 0 = n ∧ 0 = z ∧ 2 = e := by simpa using h
      omega
    · rw [if_neg h2] at h
      by_cases h3 : v < a - 239 ∨ 9223372036854775695 < m
      · rw [if_pos h3] at h
        obtain ⟨rfl, rfl, rfl⟩ : 0 = n ∧ 0 = z ∧ 3 = e := by simpa using h
        omega
      · rw [if_neg h3] at h
        obtain ⟨rfl, rfl, rfl⟩ : (m : Int) + 112 = n ∧ (a : Int) - 238 = z ∧ 0 = e := by simpa using h
        omega

set_option maxRecDepth 100000 in
set_option maxHeartbeats 400000 in
theorem readNum_empty (s : ByteArray) (w : World) (h : s.size = 0) :
    Calls Try.prog 36 #[.string s] w fun e' w' => e' = .returned (.tuple #[.int .i64 0, .int .i64 0, .int .i64 2]) ∧ w = w' := by
  have h1 := empty_true s h
  clear h
  go_enter Try.func36, Try.ntmps36
  go_wp2_with fail
  go_ret3
  exact ⟨rfl, rfl⟩
set_option maxRecDepth 100000 in
set_option maxHeartbeats 400000 in
theorem readNum_near (s : ByteArray) (w : World) (h0 : 0 < s.size) (hd : 128 ≤ s[0].toNat) (hd2 : s[0].toNat < 240) :
    Calls Try.prog 36 #[.string s] w fun e' w' => e' = .returned (.tuple #[.int .i64 ((s[0].toNat : Int) - 128), .int .i64 1, .int .i64 0]) ∧ w = w' := by
  have hx : bits .xor .u8 (s[0].toNat : Int) 0 = (s[0].toNat : Int) := by
    have := u8_xor_nat s[0].toNat 0 s[0].toNat_lt (by omega)
    simpa using this
  have h1 := empty_false s h0
  go_enter Try.func36, Try.ntmps36
  go_wp2_with fail
  go_ret3
  exact ⟨rfl, rfl⟩
set_option maxRecDepth 100000 in
set_option maxHeartbeats 400000 in
theorem readNum_wide0 (s : ByteArray) (w : World) (h0 : 0 < s.size) (hsz : s.size ≤ 9223372036854775807) (hd : 240 ≤ s[0].toNat) (n z e : Int) (hr : Pl.rdWide s[0] s.data.toList.tail 0 = (n, z, e)) :
    Calls Try.prog 36 #[.string s] w fun e' w' => e' = .returned (.tuple #[.int .i64 n, .int .i64 z, .int .i64 e]) ∧ w = w' := by
  have hx0 : s[0].toNat ^^^ 0 = s[0].toNat := Nat.xor_zero _
  have hc := readWide_any s 0 w (by omega) h0 hsz (by rw [hx0]; exact hd) n z e hr
  have hbd := rdWide_bd _ _ _ _ _ _ hr (Pl.xor_lt _ _ (by omega)) (by rw [hx0]; exact hd)
  have hx : bits .xor .u8 (s[0].toNat : Int) 0 = (s[0].toNat : Int) := by
    have := u8_xor_nat s[0].toNat 0 s[0].toNat_lt (by omega)
    simpa using this
  have h1 := empty_false s h0
  have HC := Lib.hid hc
  clear hr hx0 hc
  obtain ⟨⟨b1, b2⟩, _, _, _⟩ := hbd
  have hu : s[0].toNat < 256 := s[0].toNat_lt
  go_enter Try.func36, Try.ntmps36
  by_cases he : e = 0
  · subst he
    go_wp2_with (refine HC.out.mono ?_; rintro e w' ⟨rfl, rfl⟩)
    go_ret3
    exact ⟨rfl, rfl⟩
  · have he' : (e == 0) = false := by simpa using he
    clear he
    go_wp2_with (refine HC.out.mono ?_; rintro e w' ⟨rfl, rfl⟩)
    go_ret3
    exact ⟨rfl, rfl⟩
set_option maxRecDepth 100000 in
set_option maxHeartbeats 400000 in
theorem readNum_nearM (s : ByteArray) (a : Nat) (w : World) (h0 : 0 < s.size) (hx : bits .xor .u8 (s[0].toNat : Int) 255 = (a : Int)) (hd : s[0].toNat < 128) (ha : 128 ≤ a) (ha2 : a < 240) :
    Calls Try.prog 36 #[.string s] w fun e' w' => e' = .returned (.tuple #[.int .i64 (-((a : Int) - 128) - 1), .int .i64 1, .int .i64 0]) ∧ w = w' := by
  have h1 := empty_false s h0
  have hn : bits .xor .i64 (-1) ((a : Int) - 128) = -((a : Int) - 128) - 1 := by
    have := i64_not (a - 128) (by omega)
    rw [show ((a - 128 : Nat) : Int) = (a : Int) - 128 from by omega] at this
    rw [this]; omega
  have HN := Lib.hid hn
  clear hn
  go_enter Try.func36, Try.ntmps36
  go_wp2_with fail
  rw [HN.out]
  go_ret3
  exact ⟨rfl, rfl⟩
set_option maxRecDepth 100000 in
set_option maxHeartbeats 400000 in
theorem readNum_wideM (s : ByteArray) (a : Nat) (w : World) (h0 : 0 < s.size) (hsz : s.size ≤ 9223372036854775807) (hxa : s[0].toNat ^^^ 255 = a) (hd : s[0].toNat < 128) (ha : 240 ≤ a) (n z e : Int) (hr : Pl.rdWide s[0] s.data.toList.tail 255 = (n, z, e)) :
    Calls Try.prog 36 #[.string s] w fun e' w' => e' = .returned (.tuple #[.int .i64 (if e = 0 then -n - 1 else n), .int .i64 z, .int .i64 e]) ∧ w = w' := by
  have hc := readWide_any s 255 w (by omega) h0 hsz (by rw [hxa]; exact ha) n z e hr
  have hlt := Pl.xor_lt s[0] 255 (by omega)
  have hbd := rdWide_bd _ _ _ _ _ _ hr (Pl.xor_lt _ _ (by omega)) (by rw [hxa]; exact ha)
  have hx : bits .xor .u8 (s[0].toNat : Int) 255 = (a : Int) := by
    have := u8_xor_nat s[0].toNat 255 s[0].toNat_lt (by omega)
    rw [hxa] at this
    exact this
  rw [hxa] at hlt
  have h1 := empty_false s h0
  have HC := Lib.hid hc
  clear hr hxa hc
  obtain ⟨⟨b1, b2⟩, _, _, _⟩ := hbd
  by_cases he : e = 0
  · subst he
    rw [if_pos rfl]
    have hn : bits .xor .i64 (-1) n = -n - 1 := by
      obtain ⟨m, rfl⟩ := Int.eq_ofNat_of_zero_le b1
      rw [i64_not m (by omega)]; omega
    have HN := Lib.hid hn
    clear hn
    go_enter Try.func36, Try.ntmps36
    go_wp2_with (refine HC.out.mono ?_; rintro e w' ⟨rfl, rfl⟩)
    rw [HN.out]
    go_ret3
    exact ⟨rfl, rfl⟩
  · have he' : (e == 0) = false := by simpa using he
    rw [if_neg he]
    clear he
    go_enter Try.func36, Try.ntmps36
    go_wp2_with (refine HC.out.mono ?_; rintro e w' ⟨rfl, rfl⟩)
    go_ret3
    exact ⟨rfl, rfl⟩

/-- What readNum answers is what the plain function says. -/
theorem readNum_any (s : ByteArray) (w : World) (hsz : s.size ≤ 9223372036854775807) (n z e : Int) (hr : Pl.rdNum s.data.toList = (n, z, e)) :
    Calls Try.prog 36 #[.string s] w fun e' w' => e' = .returned (.tuple #[.int .i64 n, .int .i64 z, .int .i64 e]) ∧ w = w' := by
  by_cases h0 : s.size = 0
  · have : s.data.toList = [] := by
      have : s.data.toList.length = 0 := by simpa using h0
      exact List.length_eq_zero_iff.1 this
    rw [this] at hr
    obtain ⟨rfl, rfl, rfl⟩ : 0 = n ∧ 0 = z ∧ 2 = e := by simpa [Pl.rdNum] using hr
    exact readNum_empty s w h0
  · have h0 : 0 < s.size := by omega
    rw [rdNum_cons s h0] at hr
    have hu : s[0].toNat < 256 := s[0].toNat_lt
    unfold Pl.flipOf at hr
    by_cases hd : s[0].toNat < 128
    · rw [if_pos hd] at hr
      have hlt := Pl.xor_lt s[0] 255 (by omega)
      have hge : 128 ≤ s[0].toNat ^^^ 255 := by
        have : ∀ x : Fin 128, 128 ≤ x.val ^^^ 255 := by decide +kernel
        exact this ⟨_, hd⟩
      have hx := u8_xor_nat s[0].toNat 255 hu (by omega)
      obtain ⟨a, ha⟩ : ∃ a, s[0].toNat ^^^ 255 = a := ⟨_, rfl⟩
      rw [ha] at hr hlt hge hx
      by_cases h1 : a < 240
      · rw [if_pos h1] at hr
        obtain ⟨rfl, rfl, rfl⟩ : -((a : Int) - 128) - 1 = n ∧ 1 = z ∧ 0 = e := by simpa [Pl.back] using hr
        exact readNum_nearM s a w h0 hx hd hge h1
      · rw [if_neg h1] at hr
        obtain ⟨n', z', e', hw⟩ : ∃ n z e, Pl.rdWide s[0] s.data.toList.tail 255 = (n, z, e) := ⟨_, _, _, rfl⟩
        rw [hw] at hr
        have := readNum_wideM s a w h0 hsz ha hd (by omega) n' z' e' hw
        have h3 : (if e' = 0 then -n' - 1 else n') = n ∧ z' = z ∧ e' = e := by
          unfold Pl.back at hr
          by_cases he : e' = 0
          · rw [if_pos ⟨he, by omega⟩] at hr
            rw [if_pos he]
            simpa using hr
          · rw [if_neg (fun h => he h.1)] at hr
            rw [if_neg he]
            simpa using hr
        obtain ⟨rfl, rfl, rfl⟩ := h3
        exact this
    · rw [if_neg hd, Nat.xor_zero] at hr
      by_cases h1 : s[0].toNat < 240
      · rw [if_pos h1] at hr
        obtain ⟨rfl, rfl, rfl⟩ : (s[0].toNat : Int) - 128 = n ∧ 1 = z ∧ 0 = e := by simpa [Pl.back] using hr
        exact readNum_near s w h0 (by omega) h1
      · rw [if_neg h1] at hr
        have h3 : Pl.rdWide s[0] s.data.toList.tail 0 = (n, z, e) := by simpa [Pl.back] using hr
        exact readNum_wide0 s w h0 hsz (by omega) n z e h3

/-- The bounds of what is read. -/
theorem rdNum_bd (l : List UInt8) (n z e : Int) (h : Pl.rdNum l = (n, z, e)) :
    (-9223372036854775808 ≤ n ∧ n ≤ 9223372036854775807) ∧ (0 ≤ z ∧ z ≤ l.length) ∧ (e = 0 ∨ e = 2 ∨ e = 3) ∧ (e ≠ 0 → n = 0 ∧ z = 0) := by
  cases l with
  | nil =>
    obtain ⟨rfl, rfl, rfl⟩ : 0 = n ∧ 0 = z ∧ 2 = e := by simpa [Pl.rdNum] using h
    exact ⟨by omega, by simp, by omega, by omega⟩
  | cons c t =>
    have hf : Pl.flipOf c < 256 := by unfold Pl.flipOf; split <;> omega
    have hlt := Pl.xor_lt c _ hf
    have hge : 128 ≤ c.toNat ^^^ Pl.flipOf c := by
      have hu := c.toNat_lt
      unfold Pl.flipOf
      split
      · rename_i hd
        have : ∀ x : Fin 128, 128 ≤ x.val ^^^ 255 := by decide +kernel
        exact this ⟨_, hd⟩
      · rw [Nat.xor_zero]; omega
    simp only [Pl.rdNum] at h
    simp only [List.length_cons]
    by_cases h1 : c.toNat ^^^ Pl.flipOf c < 240
    · rw [if_pos h1] at h
      generalize c.toNat ^^^ Pl.flipOf c = a at *
      unfold Pl.back at h
      split at h
      · obtain ⟨rfl, rfl, rfl⟩ : -((a : Int) - 128) - 1 = n ∧ 1 = z ∧ 0 = e := by simpa using h
        omega
      · obtain ⟨rfl, rfl, rfl⟩ : (a : Int) - 128 = n ∧ 1 = z ∧ 0 = e := by simpa using h
        omega
    · rw [if_neg h1] at h
      obtain ⟨n', z', e', hw⟩ : ∃ n z e, Pl.rdWide c t (Pl.flipOf c) = (n, z, e) := ⟨_, _, _, rfl⟩
      have hb := rdWide_bd _ _ _ _ _ _ hw hlt (by omega)
      rw [hw] at h
      unfold Pl.back at h
      split at h
      · obtain ⟨rfl, rfl, rfl⟩ : -n' - 1 = n ∧ z' = z ∧ e' = e := by simpa using h
        rename_i h0
        have : e' = 0 := h0.1
        omega
      · obtain ⟨rfl, rfl, rfl⟩ : n' = n ∧ z' = z ∧ e' = e := by simpa using h
        omega

set_option maxHeartbeats 400000 in
/-- What readCount answers. -/
theorem readCount_any (s : ByteArray) (w : World) (hsz : s.size ≤ 9223372036854775807) (n z e : Int) (hr : Pl.rdCount s.data.toList = (n, z, e)) :
    Calls Try.prog 33 #[.string s] w fun e' w' => e' = .returned (.tuple #[.int .i64 n, .int .i64 z, .int .i64 e]) ∧ w = w' := by
  obtain ⟨n', z', e', hw⟩ : ∃ n z e, Pl.rdNum s.data.toList = (n, z, e) := ⟨_, _, _, rfl⟩
  have hc := readNum_any s w hsz n' z' e' hw
  unfold Pl.rdCount at hr
  rw [hw] at hr
  have HC := Lib.hid hc
  clear hc hw
  by_cases h : n' < 0
  · rw [if_pos h] at hr
    obtain ⟨rfl, rfl, rfl⟩ : 0 = n ∧ 0 = z ∧ 3 = e := by simpa using hr
    clear hr
    go_enter Try.func33, Try.ntmps33
    go_wp2_with (refine HC.out.mono ?_; rintro e w' ⟨rfl, rfl⟩)
    go_ret3
    exact ⟨rfl, rfl⟩
  · rw [if_neg h] at hr
    obtain ⟨rfl, rfl, rfl⟩ : n' = n ∧ z' = z ∧ e' = e := by simpa using hr
    clear hr
    go_enter Try.func33, Try.ntmps33
    go_wp2_with (refine HC.out.mono ?_; rintro e w' ⟨rfl, rfl⟩)
    go_ret3
    exact ⟨rfl, rfl⟩
end Go.Proofs.Ytoppgecajibelaa
