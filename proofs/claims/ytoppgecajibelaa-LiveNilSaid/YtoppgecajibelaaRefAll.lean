/-
  What the document's own readers answer: the same plain functions as the program's.
-/
import Derived.Test.YtoppgecajibelaaRefRd
namespace Go.Proofs.Ytoppgecajibelaa
open Go.RowKit

/-- The document's own number off bytes. -/
theorem readNumR_any (s : ByteArray) (w : World) (hsz : s.size ≤ 9223372036854775807) (n z e : Int) (hr : Pl.rdNum s.data.toList = (n, z, e)) :
    Calls Try.prog 34 #[.string s] w fun e' w' => e' = .returned (.tuple #[.int .i64 n, .int .i64 z, .int .i64 e]) ∧ Below w.heap.size w w' := by
  by_cases h0 : s.size = 0
  · have : s.data.toList = [] := by
      have : s.data.toList.length = 0 := by simpa using h0
      exact List.length_eq_zero_iff.1 this
    rw [this] at hr
    obtain ⟨rfl, rfl, rfl⟩ : 0 = n ∧ 0 = z ∧ 2 = e := by simpa [Pl.rdNum] using hr
    exact (readNumR_empty s w h0).mono fun e' w' ⟨h1, h2⟩ => ⟨h1, h2 ▸ Below.refl _ _⟩
  · have h0 : 0 < s.size := by omega
    rw [rdNum_cons s h0] at hr
    have hu : s[0].toNat < 256 := s[0].toNat_lt
    have hnb := not_byte ⟨s[0].toNat, hu⟩
    simp only at hnb
    have hlen : s.data.toList.tail.length = s.size - 1 := by simp
    unfold Pl.flipOf at hr
    by_cases hd : s[0].toNat < 128
    · rw [if_pos hd, hnb] at hr
      by_cases h1 : 16 ≤ s[0].toNat
      · rw [if_pos (by omega)] at hr
        have h3 : (s[0].toNat : Int) - 128 = n ∧ 1 = z ∧ 0 = e := by
          have : Pl.back 255 (((255 - s[0].toNat : Nat) : Int) - 128, 1, 0) = (((s[0].toNat : Int) - 128), 1, 0) := by
            unfold Pl.back
            rw [if_pos ⟨rfl, by omega⟩]
            simp only [Prod.mk.injEq, and_true]
            omega
          rw [this] at hr
          simpa using hr
        obtain ⟨rfl, rfl, rfl⟩ := h3
        exact (readNumR_near s w h0 h1 (by omega)).mono fun e' w' ⟨h1, h2⟩ => ⟨h1, h2 ▸ Below.refl _ _⟩
      · rw [if_neg (by omega)] at hr
        unfold Pl.rdWide at hr
        rw [hnb, hlen] at hr
        by_cases h2 : s[0].toNat < 8
        · rw [if_pos (by omega)] at hr
          obtain ⟨rfl, rfl, rfl⟩ : 0 = n ∧ 0 = z ∧ 3 = e := by simpa [Pl.back] using hr
          exact (readNumR_bad s w h0 (Or.inl h2)).mono fun e' w' ⟨h1, h2⟩ => ⟨h1, h2 ▸ Below.refl _ _⟩
        · rw [if_neg (by omega)] at hr
          generalize hk : 255 - s[0].toNat - 239 = k at hr
          have hl : Hid (Calls Try.prog 37 #[.int .u8 s[0].toNat] w fun e' w' => e' = .returned (.int .i64 k) ∧ w = w') := by
            have := long_down s[0].toNat w (by omega) (by omega)
            rw [show (16 : Int) - (s[0].toNat : Int) = (k : Int) from by omega] at this
            exact this
          by_cases h3 : s.size - 1 < k
          · rw [if_pos h3] at hr
            obtain ⟨rfl, rfl, rfl⟩ : 0 = n ∧ 0 = z ∧ 2 = e := by simpa [Pl.back] using hr
            exact (readNumR_short s k w h0 (by omega) (by omega) (by omega) hl).mono fun e' w' ⟨h1, h2⟩ => ⟨h1, h2 ▸ Below.refl _ _⟩
          · rw [if_neg h3] at hr
            have f1 : 1 ≤ k := by omega
            have f2 : k ≤ 8 := by omega
            have f3 : k < s.size := by omega
            have f4 : 8 ≤ s[0].toNat := by omega
            have f5 : s[0].toNat < 16 := by omega
            refine readNumR_loopM s k w h0 hsz f1 f2 f3 f4 f5 hl ?_ n z e ?_
            · show _ = _
              have := not_byte ⟨239 + k, by omega⟩
              simp only at this
              rw [this, show 255 - (239 + k) = s[0].toNat from by omega]
              exact UInt8.ofNat_toNat.symm
            · rw [← hr]
              split
              · simp [Pl.back]
              · unfold Pl.back
                rw [if_pos ⟨rfl, by omega⟩]
                simp only [Prod.mk.injEq, and_true]
                omega
    · rw [if_neg hd, Nat.xor_zero] at hr
      by_cases h1 : s[0].toNat < 240
      · rw [if_pos h1] at hr
        obtain ⟨rfl, rfl, rfl⟩ : (s[0].toNat : Int) - 128 = n ∧ 1 = z ∧ 0 = e := by simpa [Pl.back] using hr
        exact (readNumR_near s w h0 (by omega) h1).mono fun e' w' ⟨h1, h2⟩ => ⟨h1, h2 ▸ Below.refl _ _⟩
      · rw [if_neg h1] at hr
        unfold Pl.rdWide at hr
        rw [Nat.xor_zero, hlen] at hr
        by_cases h2 : 247 < s[0].toNat
        · rw [if_pos h2] at hr
          obtain ⟨rfl, rfl, rfl⟩ : 0 = n ∧ 0 = z ∧ 3 = e := by simpa [Pl.back] using hr
          exact (readNumR_bad s w h0 (Or.inr h2)).mono fun e' w' ⟨h1, h2⟩ => ⟨h1, h2 ▸ Below.refl _ _⟩
        · rw [if_neg h2] at hr
          generalize hk : s[0].toNat - 239 = k at hr
          have hl : Hid (Calls Try.prog 37 #[.int .u8 s[0].toNat] w fun e' w' => e' = .returned (.int .i64 k) ∧ w = w') := by
            have := long_up s[0].toNat w (by omega) (by omega)
            rw [show (s[0].toNat : Int) - 239 = (k : Int) from by omega] at this
            exact this
          by_cases h3 : s.size - 1 < k
          · rw [if_pos h3] at hr
            obtain ⟨rfl, rfl, rfl⟩ : 0 = n ∧ 0 = z ∧ 2 = e := by simpa [Pl.back] using hr
            exact (readNumR_short s k w h0 (by omega) (by omega) (by omega) hl).mono fun e' w' ⟨h1, h2⟩ => ⟨h1, h2 ▸ Below.refl _ _⟩
          · rw [if_neg h3] at hr
            have f1 : 1 ≤ k := by omega
            have f2 : k ≤ 8 := by omega
            have f3 : k < s.size := by omega
            have f4 : 240 ≤ s[0].toNat := by omega
            refine readNumR_loop s k w h0 hsz f1 f2 f3 f4 hu hl ?_ n z e ?_
            · show _ = _
              rw [Nat.xor_zero, show 239 + k = s[0].toNat from by omega]
              exact UInt8.ofNat_toNat.symm
            · rw [← hr]
              split
              · simp [Pl.back]
              · simp only [Pl.back, ne_eq, not_true, and_false, if_false, Prod.mk.injEq, and_true, true_and]
                omega

set_option maxRecDepth 100000 in
set_option maxHeartbeats 400000 in
theorem readCountR_any (s : ByteArray) (w : World) (hsz : s.size ≤ 9223372036854775807) (n z e : Int) (hr : Pl.rdCount s.data.toList = (n, z, e)) :
    Calls Try.prog 29 #[.string s] w fun e' w' => e' = .returned (.tuple #[.int .i64 n, .int .i64 z, .int .i64 e]) ∧ Below w.heap.size w w' := by
  obtain ⟨n', z', e', hw⟩ : ∃ n z e, Pl.rdNum s.data.toList = (n, z, e) := ⟨_, _, _, rfl⟩
  have hc := readNumR_any s w hsz n' z' e' hw
  have hb := rdNum_bd _ _ _ _ hw
  unfold Pl.rdCount at hr
  rw [hw] at hr
  have HC := Lib.hid hc
  clear hc hw
  obtain ⟨_, _, _, b6⟩ := hb
  by_cases h : n' < 0
  · rw [if_pos h] at hr
    obtain ⟨rfl, rfl, rfl⟩ : 0 = n ∧ 0 = z ∧ 3 = e := by simpa using hr
    clear hr
    have he : e' = 0 := by
      by_cases he : e' = 0
      · exact he
      · have := (b6 he).1; omega
    subst he
    clear b6
    go_enter Try.func29, Try.ntmps29
    go_wp2_with (refine HC.out.mono ?_; rintro e w' ⟨rfl, hb⟩; have HB := Lib.hid hb; clear hb)
    go_ret3
    exact ⟨rfl, HB.out⟩
  · rw [if_neg h] at hr
    obtain ⟨rfl, rfl, rfl⟩ : n' = n ∧ z' = z ∧ e' = e := by simpa using hr
    clear hr
    by_cases he : e' = 0
    · subst he
      clear b6
      go_enter Try.func29, Try.ntmps29
      go_wp2_with (refine HC.out.mono ?_; rintro e w' ⟨rfl, hb⟩; have HB := Lib.hid hb; clear hb)
      go_ret3
      exact ⟨rfl, HB.out⟩
    · have he' : (e' == 0) = false := by simpa using he
      clear he b6
      go_enter Try.func29, Try.ntmps29
      go_wp2_with (refine HC.out.mono ?_; rintro e w' ⟨rfl, hb⟩; have HB := Lib.hid hb; clear hb)
      go_ret3
      exact ⟨rfl, HB.out⟩

theorem one_data (s : ByteArray) (k : Nat) (h : k < s.size) (acc : ByteArray) : (acc ++ s.extract k (k + 1)).data.toList = acc.data.toList ++ [s[k]] := by
  rw [ByteArray.data_append, Array.toList_append, Lib.extract_data, drop_cons s k h, Nat.add_sub_cancel_left]
  rfl
theorem one_size (s : ByteArray) (k : Nat) (h : k < s.size) (acc : ByteArray) : (acc ++ s.extract k (k + 1)).size = acc.size + 1 := by
  rw [ByteArray.size_append, ByteArray.size_extract]
  omega
theorem zero_data (acc : ByteArray) : (acc ++ ⟨#[0]⟩).data.toList = acc.data.toList ++ [0] := by
  rw [ByteArray.data_append, Array.toList_append]
end Go.Proofs.Ytoppgecajibelaa
