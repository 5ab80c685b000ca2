/-
  What the document's own reader of numbers answers.
-/
import Derived.Test.YtoppgecajibelaaRef
import Derived.Deep.RegionHeld3
import Derived.Deep.RegionWith
namespace Go.Proofs.Ytoppgecajibelaa
open Go.RowKit

set_option maxRecDepth 100000 in
set_option maxHeartbeats 400000 in
theorem long_up (c : Nat) (w : World) (h1 : 240 ≤ c) (h2 : c ≤ 247) :
    Calls Try.prog 37 #[.int .u8 c] w fun e' w' => e' = .returned (.int .i64 ((c : Int) - 239)) ∧ w = w' := by
  go_enter Try.func37, Try.ntmps37
  go_wp2
  go_ret
  exact ⟨rfl, rfl⟩
set_option maxRecDepth 100000 in
set_option maxHeartbeats 400000 in
theorem long_down (c : Nat) (w : World) (h1 : 8 ≤ c) (h2 : c ≤ 15) :
    Calls Try.prog 37 #[.int .u8 c] w fun e' w' => e' = .returned (.int .i64 (16 - (c : Int))) ∧ w = w' := by
  go_enter Try.func37, Try.ntmps37
  go_wp2
  go_ret
  exact ⟨rfl, rfl⟩
set_option maxRecDepth 100000 in
set_option maxHeartbeats 400000 in
theorem long_near (c : Nat) (w : World) (h1 : 16 ≤ c) (h2 : c < 240) :
    Calls Try.prog 37 #[.int .u8 c] w fun e' w' => e' = .returned (.int .i64 0) ∧ w = w' := by
  go_enter Try.func37, Try.ntmps37
  go_wp2
  go_ret
  exact ⟨rfl, rfl⟩
set_option maxRecDepth 100000 in
set_option maxHeartbeats 400000 in
theorem long_low (c : Nat) (w : World) (h1 : c < 8) :
    Calls Try.prog 37 #[.int .u8 c] w fun e' w' => e' = .returned (.int .i64 (-1)) ∧ w = w' := by
  go_enter Try.func37, Try.ntmps37
  go_wp2
  go_ret
  exact ⟨rfl, rfl⟩
set_option maxRecDepth 100000 in
set_option maxHeartbeats 400000 in
theorem long_high (c : Nat) (w : World) (h1 : 247 < c) :
    Calls Try.prog 37 #[.int .u8 c] w fun e' w' => e' = .returned (.int .i64 (-1)) ∧ w = w' := by
  go_enter Try.func37, Try.ntmps37
  go_wp2
  go_ret
  exact ⟨rfl, rfl⟩

theorem xor_back (b : UInt8) (f : Nat) (hf : f < 256) : UInt8.ofNat ((b.toNat ^^^ f) % 256 ^^^ f) = b := by
  have h := Pl.xor_lt b f hf
  rw [Nat.mod_eq_of_lt h, Nat.xor_assoc, Nat.xor_self, Nat.xor_zero]
  exact UInt8.ofNat_toNat
theorem be_val (f : Nat) (hf : f < 256) (l : List UInt8) : Pl.be f l.length (Pl.val f l 0) = l := by
  suffices h : ∀ n (l : List UInt8), l.length = n → Pl.be f l.length (Pl.val f l 0) = l from h _ l rfl
  intro n
  induction n with
  | zero => intro l h; obtain rfl := List.length_eq_zero_iff.1 h; rfl
  | succ n ih =>
    intro l h
    obtain ⟨r, b, rfl⟩ : ∃ r b, l = r ++ [b] := ⟨l.dropLast, l.getLast (by intro e; subst e; simp at h), (List.dropLast_concat_getLast _).symm⟩
    have hr : r.length = n := by simpa using h
    have hb := Pl.xor_lt b f hf
    rw [Pl.val_snoc, List.length_append, List.length_singleton, be_split]
    rw [show (256 * Pl.val f r 0 + (b.toNat ^^^ f)) / 256 = Pl.val f r 0 from by omega, show (256 * Pl.val f r 0 + (b.toNat ^^^ f)) % 256 = (b.toNat ^^^ f) % 256 from by omega, ih r hr, xor_back b f hf]

/-- The head of a long number. -/
theorem wid_lt (m k : Nat) (hk : 1 ≤ k) (h : m < 256 ^ k) : Pl.wid m ≤ k := by
  have h8 := Pl.wid_le m
  rcases Nat.lt_or_ge 8 k with h' | h'
  · omega
  · have hc : k = 1 ∨ k = 2 ∨ k = 3 ∨ k = 4 ∨ k = 5 ∨ k = 6 ∨ k = 7 ∨ k = 8 := by omega
    unfold Pl.wid
    rcases hc with rfl | rfl | rfl | rfl | rfl | rfl | rfl | rfl <;> simp only [Nat.reducePow] at h <;> repeat' split
    all_goals omega

set_option maxRecDepth 100000 in
set_option maxHeartbeats 400000 in
theorem readNumR_empty (s : ByteArray) (w : World) (h : s.size = 0) :
    Calls Try.prog 34 #[.string s] w fun e' w' => e' = .returned (.tuple #[.int .i64 0, .int .i64 0, .int .i64 2]) ∧ w = w' := by
  have h1 := empty_true s h
  clear h
  go_enter Try.func34, Try.ntmps34
  go_wp2_with fail
  go_ret3
  exact ⟨rfl, rfl⟩
set_option maxRecDepth 100000 in
set_option maxHeartbeats 400000 in
theorem readNumR_bad (s : ByteArray) (w : World) (h0 : 0 < s.size) (hc : s[0].toNat < 8 ∨ 247 < s[0].toNat) :
    Calls Try.prog 34 #[.string s] w fun e' w' => e' = .returned (.tuple #[.int .i64 0, .int .i64 0, .int .i64 3]) ∧ w = w' := by
  have h1 := empty_false s h0
  have hl : Hid (Calls Try.prog 37 #[.int .u8 s[0].toNat] w fun e' w' => e' = .returned (.int .i64 (-1)) ∧ w = w') := by
    rcases hc with hc | hc
    · exact long_low _ w hc
    · exact long_high _ w hc
  clear hc
  go_enter Try.func34, Try.ntmps34
  go_wp2_with (refine hl.out.mono ?_; rintro e w' ⟨rfl, rfl⟩)
  go_ret3
  exact ⟨rfl, rfl⟩
set_option maxRecDepth 100000 in
set_option maxHeartbeats 400000 in
theorem readNumR_near (s : ByteArray) (w : World) (h0 : 0 < s.size) (hc : 16 ≤ s[0].toNat) (hc2 : s[0].toNat < 240) :
    Calls Try.prog 34 #[.string s] w fun e' w' => e' = .returned (.tuple #[.int .i64 ((s[0].toNat : Int) - 128), .int .i64 1, .int .i64 0]) ∧ w = w' := by
  have h1 := empty_false s h0
  go_enter Try.func34, Try.ntmps34
  go_wp2_with (refine (long_near _ _ hc hc2).mono ?_; rintro e w' ⟨rfl, rfl⟩)
  go_ret3
  exact ⟨rfl, rfl⟩
set_option maxRecDepth 100000 in
set_option maxHeartbeats 400000 in
theorem readNumR_short (s : ByteArray) (k : Nat) (w : World) (h0 : 0 < s.size) (hk1 : 1 ≤ k) (hk8 : k ≤ 8) (hk : s.size ≤ k)
    (hl : Hid (Calls Try.prog 37 #[.int .u8 s[0].toNat] w fun e' w' => e' = .returned (.int .i64 k) ∧ w = w')) :
    Calls Try.prog 34 #[.string s] w fun e' w' => e' = .returned (.tuple #[.int .i64 0, .int .i64 0, .int .i64 2]) ∧ w = w' := by
  have h1 := empty_false s h0
  have hk0 : ((k : Int) == 0) = false := by simp; omega
  go_enter Try.func34, Try.ntmps34
  go_wp2_with (refine hl.out.mono ?_; rintro e w' ⟨rfl, rfl⟩)
  go_ret3
  exact ⟨rfl, rfl⟩

theorem val_lt_k (f : Nat) (hf : f < 256) (l : List UInt8) (j : Nat) : Pl.val f (l.take j) 0 < 256 ^ j := val_bound f hf l j j (Nat.le_refl _)

/-- A number read off k bytes is written in just these bytes if and only if fewer are not enough. -/
theorem same_bytes (f k m : Nat) (hf : f < 256) (c : UInt8) (l : List UInt8) (n : Int) (hl : l.length = k) (hm : Pl.val f l 0 = m) (hk : 1 ≤ k) (hn : Pl.numB n = UInt8.ofNat ((239 + Pl.wid m) ^^^ f) :: Pl.be f (Pl.wid m) m) (hc : c = UInt8.ofNat ((239 + k) ^^^ f)) :
    (Pl.numB n = c :: l) ↔ k ≤ Pl.wid m := by
  subst hl
  subst hm
  have hlt := Pl.val_lt f hf l 0 0 (by simp)
  rw [Nat.zero_add] at hlt
  have hw := wid_lt _ l.length hk hlt
  constructor
  · intro h
    rw [hn] at h
    have := congrArg List.length h
    simp only [List.length_cons, be_length] at this
    omega
  · intro h
    have he : Pl.wid (Pl.val f l 0) = l.length := by omega
    rw [hn, he, hc, be_val f hf l]

theorem head_take (s : ByteArray) (k : Nat) (h0 : 0 < s.size) : (s.extract 0 (k + 1)).toList = s[0] :: s.data.toList.tail.take k := by
  rw [ByteArray.toList_eq, Lib.extract_data]
  have hl : 0 < s.data.toList.length := by simpa using h0
  have h : s.data.toList = s[0] :: s.data.toList.tail := by
    rw [← List.cons_head_tail (List.ne_nil_of_length_pos hl)]
    congr 1
    rw [List.head_eq_getElem]
    rfl
  conv => lhs; rw [h]
  simp

theorem numB_far (m : Nat) : Pl.numB ((m : Int) + 112) = UInt8.ofNat ((239 + Pl.wid m) ^^^ 0) :: Pl.be 0 (Pl.wid m) m := by
  have h1 : Pl.mag ((m : Int) + 112) = m + 112 := by unfold Pl.mag; rw [if_neg (by omega)]; omega
  have h2 : Pl.sgn ((m : Int) + 112) = 0 := by unfold Pl.sgn; rw [if_neg (by omega)]
  unfold Pl.numB
  rw [h1, h2, if_neg (by omega), Nat.add_sub_cancel]
theorem numB_farM (m : Nat) : Pl.numB (-113 - (m : Int)) = UInt8.ofNat ((239 + Pl.wid m) ^^^ 255) :: Pl.be 255 (Pl.wid m) m := by
  have h1 : Pl.mag (-113 - (m : Int)) = m + 112 := by unfold Pl.mag; rw [if_pos (by omega)]; omega
  have h2 : Pl.sgn (-113 - (m : Int)) = 255 := by unfold Pl.sgn; rw [if_pos (by omega)]
  unfold Pl.numB
  rw [h1, h2, if_neg (by omega), Nat.add_sub_cancel]

set_option maxRecDepth 100000 in
set_option maxHeartbeats 2000000 in
theorem readNumR_loop (s : ByteArray) (k : Nat) (w : World) (h0 : 0 < s.size) (hsz : s.size ≤ 9223372036854775807) (hk1 : 1 ≤ k) (hk8 : k ≤ 8) (hk : k < s.size) (hc : 240 ≤ s[0].toNat) (hc2 : s[0].toNat < 256)
    (hl : Hid (Calls Try.prog 37 #[.int .u8 s[0].toNat] w fun e' w' => e' = .returned (.int .i64 k) ∧ w = w')) (hck : Hid (s[0] = UInt8.ofNat ((239 + k) ^^^ 0)))
    (n z e : Int) (hr : (if Pl.wid (Pl.val 0 (s.data.toList.tail.take k) 0) < k ∨ 9223372036854775695 < Pl.val 0 (s.data.toList.tail.take k) 0 then ((0, 0, 3) : Int × Int × Int) else ((Pl.val 0 (s.data.toList.tail.take k) 0 : Int) + 112, (k : Int) + 1, 0)) = (n, z, e)) :
    Calls Try.prog 34 #[.string s] w fun e' w' => e' = .returned (.tuple #[.int .i64 n, .int .i64 z, .int .i64 e]) ∧ Below w.heap.size w w' := by
  have HR := Lib.hid hr
  clear hr
  have h1 := empty_false s h0
  have hk0 : ((k : Int) == 0) = false := by simp; omega
  go_enter Try.func34, Try.ntmps34
  go_wp2_with (refine hl.out.mono ?_; rintro e w' ⟨rfl, rfl⟩)
  go_loop [6, 7] (fun m i => ∃ j : Nat, j ≤ k ∧ i = .int .i64 ((j : Int) + 1) ∧ m = .int .u64 (Pl.val 0 (s.data.toList.tail.take j) 0)) (fun _ i => k + 1 - (intOf i).toNat)
  case atStart => exact ⟨0, Nat.zero_le _, rfl, rfl⟩
  case round =>
    obtain ⟨j, hj, rfl, rfl⟩ := hrel
    by_cases hlt : j < k
    · have hi : j + 1 < s.size := by omega
      have hst : Hid (Pl.val 0 (s.data.toList.tail.take (j + 1)) 0 = 256 * Pl.val 0 (s.data.toList.tail.take j) 0 + (s[j+1].toNat ^^^ 0)) := by
        show _ = _
        rw [tail_take s j hi, Pl.val_snoc]
      have hv : Pl.val 0 (s.data.toList.tail.take j) 0 < 72057594037927936 := val_bound 0 (by omega) _ j 7 (by omega)
      have hb : s[j+1].toNat < 256 := s[j+1].toNat_lt
      have hxb : Hid (s[j+1].toNat ^^^ 0 = s[j+1].toNat) := by
        show _ = _
        rw [Nat.xor_zero]
      go_wp2_with fail
      go_round
      case rel => exact ⟨j + 1, by omega, by go_num, by rw [hst.out, hxb.out]; go_num⟩
      case measure => simp [intOf]; omega
    · obtain rfl : j = k := by omega
      have hb : Pl.val 0 (s.data.toList.tail.take j) 0 < 18446744073709551616 := val_bound 0 (by omega) _ j 8 hk8
      have hr := HR.out
      clear HR
      by_cases h2 : 9223372036854775695 < Pl.val 0 (s.data.toList.tail.take j) 0
      · rw [if_pos (Or.inr h2)] at hr
        obtain ⟨rfl, rfl, rfl⟩ : 0 = n ∧ 0 = z ∧ 3 = e := by simpa using hr
        clear hr
        go_wp2_with fail
        go_ret3
        exact ⟨rfl, Below.refl _ _⟩
      · have hsb : ∀ x, Pl.numB x = UInt8.ofNat ((239 + Pl.wid (Pl.val 0 (s.data.toList.tail.take j) 0)) ^^^ 0) :: Pl.be 0 (Pl.wid (Pl.val 0 (s.data.toList.tail.take j) 0)) (Pl.val 0 (s.data.toList.tail.take j) 0) → ((Pl.numB x = (s.extract 0 (j + 1)).toList) ↔ j ≤ Pl.wid (Pl.val 0 (s.data.toList.tail.take j) 0)) := by
          intro x hx
          rw [head_take s j h0]
          exact same_bytes 0 j _ (by omega) s[0] _ x (by simp; omega) rfl hk1 hx hck.out
        generalize Pl.val 0 (s.data.toList.tail.take j) 0 = m at *
        have hmb : m ≤ 9223372036854775695 := by omega
        have hnb : Hid (Pl.numB ((m : Int) + 112) = UInt8.ofNat ((239 + Pl.wid m) ^^^ 0) :: Pl.be 0 (Pl.wid m) m) := numB_far m
        have hiff := hsb _ hnb.out
        have hN : Hid (∀ w, Calls Try.prog 24 #[.int .i64 ((m : Int) + 112)] w (StrPost w.heap.size w (Pl.numB ((m : Int) + 112)))) := fun w => numR_any _ w (by omega) (by omega)
        clear hb hl hsb hck h2 hnb
        by_cases h3 : Pl.wid m < j
        · rw [if_pos (Or.inl h3)] at hr
          obtain ⟨rfl, rfl, rfl⟩ : 0 = n ∧ 0 = z ∧ 3 = e := by simpa using hr
          clear hr
          have hcmp : (Pl.numB ((m : Int) + 112) == (s.extract 0 (j + 1)).toList) = false := by
            rw [beq_eq_false_iff_ne]
            intro h
            have := hiff.1 h
            omega
          have hcmp2 : (!(Pl.numB ((m : Int) + 112) == (s.extract 0 (j + 1)).toList)) = true := by rw [hcmp]; rfl
          clear hiff
          go_wp2_with fail
          have q1 : IntKind.i64.wrap ((j : Int) + 1) = (j : Int) + 1 := IntWalk.i64_in _ (by omega)
          have q2 : (0 : Int) ≤ (j : Int) + 1 := by omega
          have q3 : ((j : Int) + 1).toNat = j + 1 := by omega
          go_region_with (go_at_call 24; refine (hN.out _).mono ?_; rintro e w' ⟨rfl, hb⟩)
          have HB : Hid (Below w.heap.size w w') := ((Below.refl _ _).drew).trans hb
          clear hb hN
          go_wp2
          go_ret3
          exact ⟨rfl, HB.out⟩
        · rw [if_neg (by omega)] at hr
          obtain ⟨rfl, rfl, rfl⟩ : (m : Int) + 112 = n ∧ (j : Int) + 1 = z ∧ 0 = e := by simpa using hr
          clear hr
          have hcmp : (Pl.numB ((m : Int) + 112) == (s.extract 0 (j + 1)).toList) = true := by
            rw [beq_iff_eq]
            exact hiff.2 (by omega)
          have hcmp2 : (!(Pl.numB ((m : Int) + 112) == (s.extract 0 (j + 1)).toList)) = false := by rw [hcmp]; rfl
          clear hiff
          go_wp2_with fail
          have q1 : IntKind.i64.wrap ((j : Int) + 1) = (j : Int) + 1 := IntWalk.i64_in _ (by omega)
          have q2 : (0 : Int) ≤ (j : Int) + 1 := by omega
          have q3 : ((j : Int) + 1).toNat = j + 1 := by omega
          go_region_with (go_at_call 24; refine (hN.out _).mono ?_; rintro e w' ⟨rfl, hb⟩)
          have HB : Hid (Below w.heap.size w w') := ((Below.refl _ _).drew).trans hb
          clear hb hN
          go_wp2
          go_ret3
          exact ⟨rfl, HB.out⟩
set_option maxRecDepth 100000 in
set_option maxHeartbeats 2000000 in
theorem readNumR_loopM (s : ByteArray) (k : Nat) (w : World) (h0 : 0 < s.size) (hsz : s.size ≤ 9223372036854775807) (hk1 : 1 ≤ k) (hk8 : k ≤ 8) (hk : k < s.size) (hc : 8 ≤ s[0].toNat) (hc2 : s[0].toNat < 16)
    (hl : Hid (Calls Try.prog 37 #[.int .u8 s[0].toNat] w fun e' w' => e' = .returned (.int .i64 k) ∧ w = w')) (hck : Hid (s[0] = UInt8.ofNat ((239 + k) ^^^ 255)))
    (n z e : Int) (hr : (if Pl.wid (Pl.val 255 (s.data.toList.tail.take k) 0) < k ∨ 9223372036854775695 < Pl.val 255 (s.data.toList.tail.take k) 0 then ((0, 0, 3) : Int × Int × Int) else (-113 - (Pl.val 255 (s.data.toList.tail.take k) 0 : Int), (k : Int) + 1, 0)) = (n, z, e)) :
    Calls Try.prog 34 #[.string s] w fun e' w' => e' = .returned (.tuple #[.int .i64 n, .int .i64 z, .int .i64 e]) ∧ Below w.heap.size w w' := by
  have HR := Lib.hid hr
  clear hr
  have h1 := empty_false s h0
  have hk0 : ((k : Int) == 0) = false := by simp; omega
  go_enter Try.func34, Try.ntmps34
  go_wp2_with (refine hl.out.mono ?_; rintro e w' ⟨rfl, rfl⟩)
  go_loop [6, 7] (fun m i => ∃ j : Nat, j ≤ k ∧ i = .int .i64 ((j : Int) + 1) ∧ m = .int .u64 (Pl.val 255 (s.data.toList.tail.take j) 0)) (fun _ i => k + 1 - (intOf i).toNat)
  case atStart => exact ⟨0, Nat.zero_le _, rfl, rfl⟩
  case round =>
    obtain ⟨j, hj, rfl, rfl⟩ := hrel
    by_cases hlt : j < k
    · have hi : j + 1 < s.size := by omega
      have hst : Hid (Pl.val 255 (s.data.toList.tail.take (j + 1)) 0 = 256 * Pl.val 255 (s.data.toList.tail.take j) 0 + (s[j+1].toNat ^^^ 255)) := by
        show _ = _
        rw [tail_take s j hi, Pl.val_snoc]
      have hv : Pl.val 255 (s.data.toList.tail.take j) 0 < 72057594037927936 := val_bound 255 (by omega) _ j 7 (by omega)
      have hb : s[j+1].toNat < 256 := s[j+1].toNat_lt
      have hxb : Hid (s[j+1].toNat ^^^ 255 = 255 - s[j+1].toNat) := by
        show _ = _
        exact not_byte ⟨_, hb⟩
      go_wp2_with fail
      go_round
      case rel => exact ⟨j + 1, by omega, by go_num, by rw [hst.out, hxb.out]; go_num⟩
      case measure => simp [intOf]; omega
    · obtain rfl : j = k := by omega
      have hb : Pl.val 255 (s.data.toList.tail.take j) 0 < 18446744073709551616 := val_bound 255 (by omega) _ j 8 hk8
      have hr := HR.out
      clear HR
      by_cases h2 : 9223372036854775695 < Pl.val 255 (s.data.toList.tail.take j) 0
      · rw [if_pos (Or.inr h2)] at hr
        obtain ⟨rfl, rfl, rfl⟩ : 0 = n ∧ 0 = z ∧ 3 = e := by simpa using hr
        clear hr
        go_wp2_with fail
        go_ret3
        exact ⟨rfl, Below.refl _ _⟩
      · have hsb : ∀ x, Pl.numB x = UInt8.ofNat ((239 + Pl.wid (Pl.val 255 (s.data.toList.tail.take j) 0)) ^^^ 255) :: Pl.be 255 (Pl.wid (Pl.val 255 (s.data.toList.tail.take j) 0)) (Pl.val 255 (s.data.toList.tail.take j) 0) → ((Pl.numB x = (s.extract 0 (j + 1)).toList) ↔ j ≤ Pl.wid (Pl.val 255 (s.data.toList.tail.take j) 0)) := by
          intro x hx
          rw [head_take s j h0]
          exact same_bytes 255 j _ (by omega) s[0] _ x (by simp; omega) rfl hk1 hx hck.out
        generalize Pl.val 255 (s.data.toList.tail.take j) 0 = m at *
        have hmb : m ≤ 9223372036854775695 := by omega
        have hnb : Hid (Pl.numB (-113 - (m : Int)) = UInt8.ofNat ((239 + Pl.wid m) ^^^ 255) :: Pl.be 255 (Pl.wid m) m) := numB_farM m
        have hiff := hsb _ hnb.out
        have hN : Hid (∀ w, Calls Try.prog 24 #[.int .i64 (-113 - (m : Int))] w (StrPost w.heap.size w (Pl.numB (-113 - (m : Int))))) := fun w => numR_any _ w (by omega) (by omega)
        clear hb hl hsb hck h2 hnb
        by_cases h3 : Pl.wid m < j
        · rw [if_pos (Or.inl h3)] at hr
          obtain ⟨rfl, rfl, rfl⟩ : 0 = n ∧ 0 = z ∧ 3 = e := by simpa using hr
          clear hr
          have hcmp : (Pl.numB (-113 - (m : Int)) == (s.extract 0 (j + 1)).toList) = false := by
            rw [beq_eq_false_iff_ne]
            intro h
            have := hiff.1 h
            omega
          have hcmp2 : (!(Pl.numB (-113 - (m : Int)) == (s.extract 0 (j + 1)).toList)) = true := by rw [hcmp]; rfl
          clear hiff
          go_wp2_with fail
          have q1 : IntKind.i64.wrap ((j : Int) + 1) = (j : Int) + 1 := IntWalk.i64_in _ (by omega)
          have q2 : (0 : Int) ≤ (j : Int) + 1 := by omega
          have q3 : ((j : Int) + 1).toNat = j + 1 := by omega
          go_region_with (go_at_call 24; refine (hN.out _).mono ?_; rintro e w' ⟨rfl, hb⟩)
          have HB : Hid (Below w.heap.size w w') := ((Below.refl _ _).drew).trans hb
          clear hb hN
          go_wp2
          go_ret3
          exact ⟨rfl, HB.out⟩
        · rw [if_neg (by omega)] at hr
          obtain ⟨rfl, rfl, rfl⟩ : -113 - (m : Int) = n ∧ (j : Int) + 1 = z ∧ 0 = e := by simpa using hr
          clear hr
          have hcmp : (Pl.numB (-113 - (m : Int)) == (s.extract 0 (j + 1)).toList) = true := by
            rw [beq_iff_eq]
            exact hiff.2 (by omega)
          have hcmp2 : (!(Pl.numB (-113 - (m : Int)) == (s.extract 0 (j + 1)).toList)) = false := by rw [hcmp]; rfl
          clear hiff
          go_wp2_with fail
          have q1 : IntKind.i64.wrap ((j : Int) + 1) = (j : Int) + 1 := IntWalk.i64_in _ (by omega)
          have q2 : (0 : Int) ≤ (j : Int) + 1 := by omega
          have q3 : ((j : Int) + 1).toNat = j + 1 := by omega
          go_region_with (go_at_call 24; refine (hN.out _).mono ?_; rintro e w' ⟨rfl, hb⟩)
          have HB : Hid (Below w.heap.size w w') := ((Below.refl _ _).drew).trans hb
          clear hb hN
          go_wp2
          go_ret3
          exact ⟨rfl, HB.out⟩
end Go.Proofs.Ytoppgecajibelaa
