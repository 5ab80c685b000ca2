/-
  The document's numbers, its Open, and the walk of FstOpens, put together of 6 texts.
-/
import Derived.Test.YtdjiknakbldggaaQ5
import Derived.StillTailTactics
/-
  What the document's own readers answer: the same plain functions as the program's.
-/
namespace Go.Proofs.Ytdjiknakbldggaa
open Go.RowKit

/-- The document's own number off bytes. -/
theorem readNumR_any (s : ByteArray) (w : World) (hsz : s.size ≤ 9223372036854775807) (n z e : Int) (hr : Pl.rdNum s.data.toList = (n, z, e)) :
    Calls Try.prog 60 #[.string s] w fun e' w' => e' = .returned (.tuple #[.int .i64 n, .int .i64 z, .int .i64 e]) ∧ Below w.heap.size w w' := by
  by_cases h0 : s.size = 0
  · have : s.data.toList = [] := by
      have : s.data.toList.length = 0 := by simpa using h0
      exact List.length_eq_zero_iff.1 this
    rw [this] at hr
    obtain ⟨rfl, rfl, rfl⟩ : 0 = n ∧ 0 = z ∧ 2 = e := by simpa [Pl.rdNum] using hr
    exact (readNumR_empty s w h0).mono fun e' w' ⟨h1, h2⟩ => ⟨h1, h2 ▸ Below.refl _ _⟩
  · have h0 : 0 < s.size := by omega
    rw [rdNum_cons s h0] at hr
    have hu : s[0].toNat < 256 := s[0].toNat_lt
    have hnb := not_byte ⟨s[0].toNat, hu⟩
    simp only at hnb
    have hlen : s.data.toList.tail.length = s.size - 1 := by simp
    unfold Pl.flipOf at hr
    by_cases hd : s[0].toNat < 128
    · rw [if_pos hd, hnb] at hr
      by_cases h1 : 16 ≤ s[0].toNat
      · rw [if_pos (by omega)] at hr
        have h3 : (s[0].toNat : Int) - 128 = n ∧ 1 = z ∧ 0 = e := by
          have : Pl.back 255 (((255 - s[0].toNat : Nat) : Int) - 128, 1, 0) = (((s[0].toNat : Int) - 128), 1, 0) := by
            unfold Pl.back
            rw [if_pos ⟨rfl, by omega⟩]
            simp only [Prod.mk.injEq, and_true]
            omega
          rw [this] at hr
          simpa using hr
        obtain ⟨rfl, rfl, rfl⟩ := h3
        exact (readNumR_near s w h0 h1 (by omega)).mono fun e' w' ⟨h1, h2⟩ => ⟨h1, h2 ▸ Below.refl _ _⟩
      · rw [if_neg (by omega)] at hr
        unfold Pl.rdWide at hr
        rw [hnb, hlen] at hr
        by_cases h2 : s[0].toNat < 8
        · rw [if_pos (by omega)] at hr
          obtain ⟨rfl, rfl, rfl⟩ : 0 = n ∧ 0 = z ∧ 3 = e := by simpa [Pl.back] using hr
          exact (readNumR_bad s w h0 (Or.inl h2)).mono fun e' w' ⟨h1, h2⟩ => ⟨h1, h2 ▸ Below.refl _ _⟩
        · rw [if_neg (by omega)] at hr
          generalize hk : 255 - s[0].toNat - 239 = k at hr
          have hl : Hid (Calls Try.prog 65 #[.int .u8 s[0].toNat] w fun e' w' => e' = .returned (.int .i64 k) ∧ w = w') := by
            have := long_down s[0].toNat w (by omega) (by omega)
            rw [show (16 : Int) - (s[0].toNat : Int) = (k : Int) from by omega] at this
            exact this
          by_cases h3 : s.size - 1 < k
          · rw [if_pos h3] at hr
            obtain ⟨rfl, rfl, rfl⟩ : 0 = n ∧ 0 = z ∧ 2 = e := by simpa [Pl.back] using hr
            exact (readNumR_short s k w h0 (by omega) (by omega) (by omega) hl).mono fun e' w' ⟨h1, h2⟩ => ⟨h1, h2 ▸ Below.refl _ _⟩
          · rw [if_neg h3] at hr
            have f1 : 1 ≤ k := by omega
            have f2 : k ≤ 8 := by omega
            have f3 : k < s.size := by omega
            have f4 : 8 ≤ s[0].toNat := by omega
            have f5 : s[0].toNat < 16 := by omega
            refine readNumR_loopM s k w h0 hsz f1 f2 f3 f4 f5 hl ?_ n z e ?_
            · show _ = _
              have := not_byte ⟨239 + k, by omega⟩
              simp only at this
              rw [this, show 255 - (239 + k) = s[0].toNat from by omega]
              exact UInt8.ofNat_toNat.symm
            · rw [← hr]
              split
              · simp [Pl.back]
              · unfold Pl.back
                rw [if_pos ⟨rfl, by omega⟩]
                simp only [Prod.mk.injEq, and_true]
                omega
    · rw [if_neg hd, Nat.xor_zero] at hr
      by_cases h1 : s[0].toNat < 240
      · rw [if_pos h1] at hr
        obtain ⟨rfl, rfl, rfl⟩ : (s[0].toNat : Int) - 128 = n ∧ 1 = z ∧ 0 = e := by simpa [Pl.back] using hr
        exact (readNumR_near s w h0 (by omega) h1).mono fun e' w' ⟨h1, h2⟩ => ⟨h1, h2 ▸ Below.refl _ _⟩
      · rw [if_neg h1] at hr
        unfold Pl.rdWide at hr
        rw [Nat.xor_zero, hlen] at hr
        by_cases h2 : 247 < s[0].toNat
        · rw [if_pos h2] at hr
          obtain ⟨rfl, rfl, rfl⟩ : 0 = n ∧ 0 = z ∧ 3 = e := by simpa [Pl.back] using hr
          exact (readNumR_bad s w h0 (Or.inr h2)).mono fun e' w' ⟨h1, h2⟩ => ⟨h1, h2 ▸ Below.refl _ _⟩
        · rw [if_neg h2] at hr
          generalize hk : s[0].toNat - 239 = k at hr
          have hl : Hid (Calls Try.prog 65 #[.int .u8 s[0].toNat] w fun e' w' => e' = .returned (.int .i64 k) ∧ w = w') := by
            have := long_up s[0].toNat w (by omega) (by omega)
            rw [show (s[0].toNat : Int) - 239 = (k : Int) from by omega] at this
            exact this
          by_cases h3 : s.size - 1 < k
          · rw [if_pos h3] at hr
            obtain ⟨rfl, rfl, rfl⟩ : 0 = n ∧ 0 = z ∧ 2 = e := by simpa [Pl.back] using hr
            exact (readNumR_short s k w h0 (by omega) (by omega) (by omega) hl).mono fun e' w' ⟨h1, h2⟩ => ⟨h1, h2 ▸ Below.refl _ _⟩
          · rw [if_neg h3] at hr
            have f1 : 1 ≤ k := by omega
            have f2 : k ≤ 8 := by omega
            have f3 : k < s.size := by omega
            have f4 : 240 ≤ s[0].toNat := by omega
            refine readNumR_loop s k w h0 hsz f1 f2 f3 f4 hu hl ?_ n z e ?_
            · show _ = _
              rw [Nat.xor_zero, show 239 + k = s[0].toNat from by omega]
              exact UInt8.ofNat_toNat.symm
            · rw [← hr]
              split
              · simp [Pl.back]
              · simp only [Pl.back, ne_eq, not_true, and_false, if_false, Prod.mk.injEq, and_true, true_and]
                omega

set_option maxRecDepth 100000 in
set_option maxHeartbeats 400000 in
theorem readCountR_any (s : ByteArray) (w : World) (hsz : s.size ≤ 9223372036854775807) (n z e : Int) (hr : Pl.rdCount s.data.toList = (n, z, e)) :
    Calls Try.prog 53 #[.string s] w fun e' w' => e' = .returned (.tuple #[.int .i64 n, .int .i64 z, .int .i64 e]) ∧ Below w.heap.size w w' := by
  obtain ⟨n', z', e', hw⟩ : ∃ n z e, Pl.rdNum s.data.toList = (n, z, e) := ⟨_, _, _, rfl⟩
  have hc := readNumR_any s w hsz n' z' e' hw
  have hb := rdNum_bd _ _ _ _ hw
  unfold Pl.rdCount at hr
  rw [hw] at hr
  have HC := Lib.hid hc
  clear hc hw
  obtain ⟨_, _, _, b6⟩ := hb
  by_cases h : n' < 0
  · rw [if_pos h] at hr
    obtain ⟨rfl, rfl, rfl⟩ : 0 = n ∧ 0 = z ∧ 3 = e := by simpa using hr
    clear hr
    have he : e' = 0 := by
      by_cases he : e' = 0
      · exact he
      · have := (b6 he).1; omega
    subst he
    clear b6
    go_enter Try.func53, Try.ntmps53
    go_wp2_with (refine HC.out.mono ?_; rintro e w' ⟨rfl, hb⟩; have HB := Lib.hid hb; clear hb)
    go_ret3
    exact ⟨rfl, HB.out⟩
  · rw [if_neg h] at hr
    obtain ⟨rfl, rfl, rfl⟩ : n' = n ∧ z' = z ∧ e' = e := by simpa using hr
    clear hr
    by_cases he : e' = 0
    · subst he
      clear b6
      go_enter Try.func53, Try.ntmps53
      go_wp2_with (refine HC.out.mono ?_; rintro e w' ⟨rfl, hb⟩; have HB := Lib.hid hb; clear hb)
      go_ret3
      exact ⟨rfl, HB.out⟩
    · have he' : (e' == 0) = false := by simpa using he
      clear he b6
      go_enter Try.func53, Try.ntmps53
      go_wp2_with (refine HC.out.mono ?_; rintro e w' ⟨rfl, hb⟩; have HB := Lib.hid hb; clear hb)
      go_ret3
      exact ⟨rfl, HB.out⟩

theorem one_data (s : ByteArray) (k : Nat) (h : k < s.size) (acc : ByteArray) : (acc ++ s.extract k (k + 1)).data.toList = acc.data.toList ++ [s[k]] := by
  rw [ByteArray.data_append, Array.toList_append, Lib.extract_data, drop_cons s k h, Nat.add_sub_cancel_left]
  rfl
theorem one_size (s : ByteArray) (k : Nat) (h : k < s.size) (acc : ByteArray) : (acc ++ s.extract k (k + 1)).size = acc.size + 1 := by
  rw [ByteArray.size_append, ByteArray.size_extract]
  omega
theorem zero_data (acc : ByteArray) : (acc ++ ⟨#[0]⟩).data.toList = acc.data.toList ++ [0] := by
  rw [ByteArray.data_append, Array.toList_append]
end Go.Proofs.Ytdjiknakbldggaa

/-
  The document's numbers, and the error of the ways that are left.
-/
namespace Go.Proofs.Ytdjiknakbldggaa
open Go.RowKit Go.Maps

namespace Fs
/-- So many numbers, read. -/
def nums : Nat → List UInt8 → List Int → Int × List Int × List UInt8
  | 0, s, acc => (0, acc, s)
  | k + 1, s, acc => if cE s ≠ 0 then (cE s, [], []) else nums k (past s) (acc ++ [cN s])
theorem nums_bad {k : Nat} {s : List UInt8} {acc : List Int} (h : cE s ≠ 0) : nums (k + 1) s acc = (cE s, [], []) := by
  show (if cE s ≠ 0 then _ else _) = _
  rw [if_pos h]
theorem nums_ok {k : Nat} {s : List UInt8} {acc : List Int} (h : cE s = 0) : nums (k + 1) s acc = nums k (past s) (acc ++ [cN s]) := by
  show (if cE s ≠ 0 then _ else _) = _
  rw [if_neg (fun q => q h)]
theorem nums_one (s : List UInt8) : nums 1 s [] = if cE s ≠ 0 then (cE s, [], []) else (0, [cN s], past s) := rfl
theorem nums_two (s : List UInt8) : nums 2 s [] = if cE s ≠ 0 then (cE s, [], []) else if cE (past s) ≠ 0 then (cE (past s), [], []) else (0, [cN s, cN (past s)], past (past s)) := rfl
theorem nums_three (s : List UInt8) : nums 3 s [] = if cE s ≠ 0 then (cE s, [], []) else if cE (past s) ≠ 0 then (cE (past s), [], []) else if cE (past (past s)) ≠ 0 then (cE (past (past s)), [], []) else (0, [cN s, cN (past s), cN (past (past s))], past (past (past s))) := rfl
/-- The error of the ways that are left of a node that has too much. -/
def wide : Nat → Nat → List UInt8 → Int
  | 0, _, _ => 3
  | k + 1, n, s => if (rdW n s).1 ≠ 0 then (rdW n s).1 else wide k n (rdW n s).2.2
theorem wide_ws : ∀ (k n : Nat) (s : List UInt8) (acc : List (UInt8 × Int × Nat)), wide k n s = if (rdWs k n s acc).1 ≠ 0 then (rdWs k n s acc).1 else 3
  | 0, _, _, _ => rfl
  | k + 1, n, s, acc => by
    by_cases h : (rdW n s).1 = 0
    · rw [rdWs_ok h, ← wide_ws k n (rdW n s).2.2]
      show (if (rdW n s).1 ≠ 0 then _ else _) = _
      rw [if_neg (fun q => q h)]
    · rw [rdWs_bad h]
      show (if (rdW n s).1 ≠ 0 then _ else _) = _
      rw [if_pos h, if_pos h]
/-- A way, by its three numbers. -/
theorem rdW_nums (n : Nat) (s : List UInt8) : ((nums 3 s []).1 ≠ 0 ∧ (rdW n s).1 = (nums 3 s []).1) ∨ ((nums 3 s []).1 = 0 ∧ (nums 3 s []).2.1 = [cN s, cN (past s), cN (past (past s))] ∧ (nums 3 s []).2.2 = past (past (past s)) ∧
    ((255 < cN s ∨ (n : Int) ≤ cN (past (past s))) ∧ (rdW n s).1 = 3 ∨ ¬ (255 < cN s ∨ (n : Int) ≤ cN (past (past s))) ∧ rdW n s = (0, (UInt8.ofNat (cN s).toNat, cN (past s), (cN (past (past s))).toNat), past (past (past s))))) := by
  rw [nums_three]
  unfold rdW
  generalize past (past (past s)) = s3
  generalize cE (past (past s)) = e3
  generalize cN (past (past s)) = n3
  generalize cE (past s) = e2
  generalize cN (past s) = n2
  generalize cE s = e1
  generalize cN s = n1
  by_cases h1 : e1 = 0
  · by_cases h2 : e2 = 0
    · by_cases h3 : e3 = 0
      · by_cases h4 : 255 < n1 ∨ (n : Int) ≤ n3
        · simp only [h1, h2, h3, ne_eq, not_true_eq_false, if_false, if_pos h4]
          exact .inr ⟨trivial, trivial, trivial, .inl ⟨h4, trivial⟩⟩
        · simp only [h1, h2, h3, ne_eq, not_true_eq_false, if_false, if_neg h4]
          exact .inr ⟨trivial, trivial, trivial, .inr ⟨h4, trivial⟩⟩
      · simp only [h1, h2, h3, ne_eq, not_true_eq_false, not_false_eq_true, if_false, if_true]
        exact .inl ⟨trivial, trivial⟩
    · simp only [h1, h2, ne_eq, not_true_eq_false, not_false_eq_true, if_false, if_true]
      exact .inl ⟨trivial, trivial⟩
  · simp only [h1, ne_eq, not_false_eq_true, if_true]
    exact .inl ⟨trivial, trivial⟩
end Fs
theorem intsV_push (l : List Int) (x : Int) : intsV l ++ [.int .i64 x] = intsV (l ++ [x]) := by simp [intsV]
theorem readR_any (s : List UInt8) (w : World) (hs : s.length ≤ 140737488355328) : Calls Try.prog 53 #[.string (bs s)] w fun e' w' => ∃ z : Int, e' = .returned (.tuple #[.int .i64 (Fs.cN s), .int .i64 z, .int .i64 (Fs.cE s)]) ∧ Below w.heap.size w w' ∧ (0 ≤ z ∧ z ≤ ((bs s).size : Int)) ∧ rest (bs s) z = bs (Fs.past s) := by
  obtain ⟨n, z, e, hr⟩ : ∃ n z e, Pl.rdCount s = (n, z, e) := ⟨_, _, _, rfl⟩
  have hb := rdCount_bd _ _ _ _ hr
  refine (readCountR_any (bs s) w (by rw [bs_size]; omega) n z e (by rw [bs_data]; exact hr)).mono ?_
  rintro e' w' ⟨rfl, hbw⟩
  refine ⟨z, ?_, hbw, by rw [bs_size]; exact hb.2.1, ?_⟩
  · unfold Fs.cN Fs.cE
    rw [hr]
  · rw [rest_bs]
    unfold Fs.past
    rw [hr]
/-- What numbers answers. -/
def NumPost (w : World) (R : Int × List Int × List UInt8) (e : Ending) (w' : World) : Prop :=
  Below w.heap.size w w' ∧ ((R.1 ≠ 0 ∧ e = .returned (.tuple #[.slice none 0 0, .string ⟨#[]⟩, .int .i64 R.1])) ∨ (R.1 = 0 ∧ ∃ v, e = .returned (.tuple #[v, .string (bs R.2.2), .int .i64 0]) ∧ OwnI w' w.heap.size v R.2.1))
set_option maxRecDepth 100000 in
set_option maxHeartbeats 4000000 in
theorem numbers_any (s : List UInt8) (n : Nat) (w : World) (hs : s.length ≤ 140737488355328) (hn : n ≤ 1000) :
    Calls Try.prog 37 #[.string (bs s), .int .i64 (n : Int)] w (NumPost w (Fs.nums n s [])) := by
  obtain ⟨R, hR⟩ : ∃ R, R = Fs.nums n s [] := ⟨_, rfl⟩
  have HR0 : Hid (Fs.nums n s [] = R) := hR.symm
  obtain ⟨iI, hiI, hz0, hz1, hz2⟩ := info_parts Try.infoI
  rw [← hR]
  have HS0 : Hid (∃ S, S = bs s) := ⟨_, rfl⟩
  obtain ⟨S0, hS0⟩ := HS0.out
  have HS0 := Lib.hid hS0
  rw [← hS0]
  clear hR hS0
  go_enter Try.func37, Try.ntmps37
  go_wp2_with fail
  go_loopg [0, 7, 8] n (fun gg s0 s7 s8 wx => ∃ (i : Nat) (s' : List UInt8) (S : ByteArray) (acc : List Int) (lv : Value), i ≤ n ∧ gg = n - i ∧ s0 = .string S ∧ lv = s7 ∧ s8 = .int .i64 (i : Int) ∧ Hid (S = bs s') ∧ Hid (Fs.nums (n - i) s' acc = R) ∧ Hid (acc.length = i) ∧ Hid (s'.length ≤ 140737488355328) ∧ Hid (OwnI wx w.heap.size lv acc) ∧ Hid (Below w.heap.size w wx))
  case atStart => exact ⟨0, s, S0, [], _, Nat.zero_le _, rfl, rfl, rfl, rfl, HS0, HR0, rfl, hs, World.ownsRow_nil _ _ _ _, Below.refl _ _⟩
  case round =>
    clear HR0 HS0 hs
    obtain ⟨i, s', S, acc, lv, hi, rfl, rfl, rfl, rfl, hS, hE, hA, hL, hO, hB⟩ := hrel
    by_cases hin : i < n
    · have i1 : (i : Int) < (n : Int) := by omega
      have hq := readR_any s' wr hL.out
      rw [← hS.out] at hq
      have HQ := Lib.hid hq
      have hE2 := hE.out
      rw [show n - i = (n - (i + 1)) + 1 by omega] at hE2
      by_cases he : Fs.cE s' = 0
      · rw [he] at HQ
        rw [Fs.nums_ok he] at hE2
        have HE2 := Lib.hid hE2
        have hL2 : Hid ((Fs.past s').length ≤ 140737488355328) := Nat.le_trans (Fs.past_le s') hL.out
        generalize Fs.past s' = s2 at *
        generalize Fs.cN s' = x at *
        obtain ⟨la, lc, rfl⟩ : ∃ a c, lv = .slice a i c := by
          obtain ⟨a, c, h1, _⟩ := hO.out.form
          rw [hA.out] at h1
          exact ⟨a, c, h1⟩
        have HOW : Hid (∀ w1, Below wr.heap.size wr w1 → w1.ownsRow w.heap.size 3 1 (.slice la i lc) i (intsV acc) ∧ w.heap.size ≤ w1.heap.size) := fun w1 hb1 => by
          have h1 : OwnI w1 w.heap.size (.slice la i lc) acc := ownsRow_keep hO.out fun k hk => hb1.block k (own_kind hO.out k hk).2.1
          unfold OwnI at h1
          rw [hA.out] at h1
          exact ⟨h1, Nat.le_trans hB.out.size hb1.size⟩
        have HPU : Hid (∀ w1 w5 g cap, Below wr.heap.size wr w1 → w5.ownsRow w.heap.size 3 1 (.slice (some ⟨g, 0, none⟩) (i + 1) cap) (i + 1) (intsV acc ++ [.int .i64 x]) → Grew w1 w5 (.slice la i lc) (.slice (some ⟨g, 0, none⟩) (i + 1) cap) → OwnI w5 w.heap.size (.slice (some ⟨g, 0, none⟩) (i + 1) cap) (acc ++ [x]) ∧ Below w.heap.size w w5) := fun w1 w5 g cap hb1 h1 h2 => by
          obtain ⟨h3, h4⟩ := HOW.out w1 hb1
          refine ⟨?_, h2.below (hB.out.trans (hb1.mono hB.out.size)) h4 (fun k hk => (h3.lt k hk).1)⟩
          unfold OwnI
          rw [intsV_push] at h1
          rw [List.length_append, hA.out]
          exact h1
        have HA2 : Hid ((acc ++ [x]).length = i + 1) := by
          show _ = _
          rw [List.length_append, hA.out]
          rfl
        clear hq hE hE2 hO hL he
        go_wp2_with (first | (go_at_call 53; go_loud ((refine HQ.out.mono ?_; rintro e1 w1 ⟨z, rfl, hb1, ⟨hz3, hz4⟩, hz5⟩; have HB1 := Lib.hid hb1; obtain ⟨HW1, hsz1⟩ := HOW.out w1 hb1; have HW1 := Lib.hid HW1; have HZ5 := Lib.hid hz5; clear hb1 hz5))) | (at_builtin; go_loud ((refine wpList_pushR rfl _ _ 75 3 rfl iI _ 1 8 Try.underlying75 hiI hz0 hz1 hz2 rfl (by decide) w.heap.size hsz1 (.slice la i lc) i (intsV acc) rfl HW1.out [.int .i64 x] rfl (one_of rfl) (by first | rfl | (rw [World.size_alloc]; rfl)) (by omega) (by omega) ?_; intro g5 cap5 w5 hown5 hgr5; have HP5 := Lib.hid (HPU.out w1 w5 g5 cap5 HB1.out hown5 hgr5); clear hown5 hgr5))))
        go_roundg (n - (i + 1))
        case rel => exact ⟨i + 1, s2, _, acc ++ [x], _, by omega, rfl, rfl, rfl, by go_num, HZ5.out, HE2, HA2, hL2, HP5.out.1, HP5.out.2⟩
        case measure => omega
      · rw [Fs.nums_bad he] at hE2
        have HE2 := Lib.hid hE2
        obtain ⟨E, hEE⟩ : ∃ E, E = Fs.cE s' := ⟨_, rfl⟩
        rw [← hEE] at HQ HE2 he
        have he2 : ¬ E = 0 := he
        generalize Fs.cN s' = x at *
        clear hq hE hE2 hO hL hEE
        go_wp2_with (go_at_call 53; go_loud ((refine HQ.out.mono ?_; rintro e1 w1 ⟨z, rfl, hb1, _, _⟩; have HB1 := Lib.hid (hB.out.trans (hb1.mono hB.out.size)); clear hb1)))
        try rw [Exit.noGoto_ret]
        go_ret3
        rw [← HE2.out]
        exact ⟨HB1.out, .inl ⟨he, rfl⟩⟩
    · obtain rfl : i = n := by omega
      have i1 : ¬ (i : Int) < (i : Int) := by omega
      have hE2 := hE.out
      rw [Nat.sub_self] at hE2
      have hE3 : (0, acc, s') = R := hE2
      have HE3 := Lib.hid hE3
      have HO := Lib.hid hO.out
      have HS := Lib.hid hS.out
      have HB := Lib.hid hB.out
      clear hE hE2 hE3 hO hL hB hS
      go_wp2_with fail
      try rw [Exit.noGoto_ret]
      go_ret3
      rw [← HE3.out]
      refine ⟨HB.out, .inr ⟨rfl, lv, ?_, HO.out⟩⟩
      rw [← HS.out]
      rfl
end Go.Proofs.Ytdjiknakbldggaa

/-
  The error of the ways that are left: wide.
-/
namespace Go.Proofs.Ytdjiknakbldggaa
open Go.RowKit Go.Maps

theorem numbers_err (s : List UInt8) (n : Nat) (w : World) (hs : s.length ≤ 140737488355328) (hn : n ≤ 1000) (h : (Fs.nums n s []).1 ≠ 0) :
    Calls Try.prog 37 #[.string (bs s), .int .i64 (n : Int)] w fun e w' => e = .returned (.tuple #[.slice none 0 0, .string ⟨#[]⟩, .int .i64 (Fs.nums n s []).1]) ∧ Below w.heap.size w w' := by
  refine (numbers_any s n w hs hn).mono ?_
  rintro e w' ⟨hb, ⟨_, he⟩ | ⟨h0, _⟩⟩
  · exact ⟨he, hb⟩
  · exact absurd h0 h
theorem numbers_ok (s : List UInt8) (n : Nat) (w : World) (hs : s.length ≤ 140737488355328) (hn : n ≤ 1000) (h : (Fs.nums n s []).1 = 0) (L : List Int) (r : List UInt8) (hL : (Fs.nums n s []).2.1 = L) (hr : (Fs.nums n s []).2.2 = r) (h0 : 0 < L.length) :
    Calls Try.prog 37 #[.string (bs s), .int .i64 (n : Int)] w fun e w' => ∃ g c, e = .returned (.tuple #[.slice (some ⟨g, 0, none⟩) L.length c, .string (bs r), .int .i64 0]) ∧ Below w.heap.size w w' ∧ g < w'.heap.size ∧ (∀ j (hj : j < L.length), w'.cell? ⟨g, j, none⟩ = some (.int .i64 L[j])) ∧ ∃ cs fz, w'.heap[g]? = some (Obj.cells cs 3 fz) := by
  refine (numbers_any s n w hs hn).mono ?_
  rintro e w' ⟨hb, ⟨h1, _⟩ | ⟨_, v, rfl, ho⟩⟩
  · exact absurd h h1
  · rw [hL] at ho
    rw [hr]
    obtain ⟨g, c, rfl, hg, hc⟩ := ho.cells h0
    refine ⟨g, c, rfl, hb, hg, fun j hj => ?_, (own_kind ho g rfl).2.2⟩
    have := hc j hj
    rw [Nat.zero_add] at this
    exact this
set_option maxRecDepth 100000 in
set_option maxHeartbeats 4000000 in
theorem wide_any (s : List UInt8) (k n : Nat) (w : World) (hs : s.length ≤ 140737488355328) (hk : k ≤ 1000) :
    Calls Try.prog 38 #[.string (bs s), .int .i64 (k : Int), .int .i64 (n : Int)] w fun e w' => e = .returned (.int .i64 (Fs.wide k n s)) ∧ Below w.heap.size w w' := by
  obtain ⟨R, hR⟩ : ∃ R, R = Fs.wide k n s := ⟨_, rfl⟩
  have HR0 : Hid (Fs.wide k n s = R) := hR.symm
  rw [← hR]
  obtain ⟨S0, hS0⟩ : ∃ S, S = bs s := ⟨_, rfl⟩
  have HS0 := Lib.hid hS0
  rw [← hS0]
  clear hR hS0
  go_enter Try.func38, Try.ntmps38
  go_wp2_with fail
  go_loopg [0, 7] k (fun gg s0 s7 wx => ∃ (i : Nat) (s' : List UInt8) (S : ByteArray), i ≤ k ∧ gg = k - i ∧ s0 = .string S ∧ s7 = .int .i64 (i : Int) ∧ Hid (S = bs s') ∧ Hid (Fs.wide (k - i) n s' = R) ∧ Hid (s'.length ≤ 140737488355328) ∧ Hid (Below w.heap.size w wx))
  case atStart => exact ⟨0, s, S0, Nat.zero_le _, rfl, rfl, rfl, HS0, HR0, hs, Below.refl _ _⟩
  case round =>
    clear HR0 HS0 hs
    obtain ⟨i, s', S, hi, rfl, rfl, rfl, hS, hE, hL, hB⟩ := hrel
    by_cases hin : i < k
    · have i1 : (i : Int) < (k : Int) := by omega
      have hE2 := hE.out
      rw [show k - i = (k - (i + 1)) + 1 by omega] at hE2
      have hwd : ∀ k' : Nat, Fs.wide (k' + 1) n s' = if (Fs.rdW n s').1 ≠ 0 then (Fs.rdW n s').1 else Fs.wide k' n (Fs.rdW n s').2.2 := fun k' => rfl
      rw [hwd] at hE2
      rcases Fs.rdW_nums n s' with ⟨h1, h2⟩ | ⟨h1, h2, h3, h4⟩
      · have hq := numbers_err s' 3 wr hL.out (by omega) h1
        rw [h2, if_pos h1] at hE2
        rw [hE2, ← hS.out] at hq
        rw [hE2] at h1
        have HQ := Lib.hid hq
        have h5 : ¬ R = 0 := h1
        clear hq hE hE2 h2 h1 hL hwd hS
        go_wp2_with (go_at_call 37; go_loud ((refine HQ.out.mono ?_; rintro e1 w1 ⟨rfl, hb1⟩; have HB1 := Lib.hid (hB.out.trans (hb1.mono hB.out.size)); clear hb1)))
        try rw [Exit.noGoto_ret]
        go_ret
        exact ⟨rfl, HB1.out⟩
      · have hq := numbers_ok s' 3 wr hL.out (by omega) h1 _ _ h2 h3 (by simp)
        have hx0 := (cN_bd s').1
        have hx2 := (cN_bd (Fs.past (Fs.past s'))).1
        have hpl : (Fs.past (Fs.past (Fs.past s'))).length ≤ 140737488355328 := Nat.le_trans (Fs.past_le _) (Nat.le_trans (Fs.past_le _) (Nat.le_trans (Fs.past_le _) hL.out))
        rw [← hS.out] at hq
        have hq2 : Calls Try.prog 37 #[.string S, .int .i64 3] wr fun e w' => ∃ g c, e = .returned (.tuple #[.slice (some ⟨g, 0, none⟩) 3 c, .string (bs (Fs.past (Fs.past (Fs.past s')))), .int .i64 0]) ∧ Below wr.heap.size wr w' ∧ w'.cell? ⟨g, 0, none⟩ = some (.int .i64 (Fs.cN s')) ∧ w'.cell? ⟨g, 2, none⟩ = some (.int .i64 (Fs.cN (Fs.past (Fs.past s')))) := by
          refine hq.mono ?_
          rintro e w' ⟨g, c, rfl, hb, _, hc, _⟩
          exact ⟨g, c, rfl, hb, hc 0 (by simp), hc 2 (by simp)⟩
        have HQ := Lib.hid hq2
        generalize Fs.past (Fs.past (Fs.past s')) = s2 at *
        generalize Fs.cN s' = x0 at *
        generalize Fs.cN (Fs.past (Fs.past s')) = x2 at *
        rcases h4 with ⟨h4, h5⟩ | ⟨h4, h5⟩
        · rw [h5, if_pos (by decide)] at hE2
          subst hE2
          by_cases h6 : 255 < x0
          · clear hq hq2 hE h1 h2 h3 h4 h5 hL hwd hS
            go_wp2_with (go_at_call 37; go_loud ((refine HQ.out.mono ?_; rintro e1 w1 ⟨g, c, rfl, hb1, c0, c2⟩; have HB1 := Lib.hid (hB.out.trans (hb1.mono hB.out.size)); clear hb1)))
            try rw [Exit.noGoto_ret]
            go_ret
            exact ⟨rfl, HB1.out⟩
          · have h7 : (n : Int) ≤ x2 := by omega
            clear hq hq2 hE h1 h2 h3 h4 h5 hL hwd hS
            go_wp2_with (go_at_call 37; go_loud ((refine HQ.out.mono ?_; rintro e1 w1 ⟨g, c, rfl, hb1, c0, c2⟩; have HB1 := Lib.hid (hB.out.trans (hb1.mono hB.out.size)); clear hb1)))
            try rw [Exit.noGoto_ret]
            go_ret
            exact ⟨rfl, HB1.out⟩
        · rw [h5, if_neg (fun q => q rfl)] at hE2
          have hE3 : Fs.wide (k - (i + 1)) n s2 = R := hE2
          have HE3 := Lib.hid hE3
          have HPL := Lib.hid hpl
          have h6 : ¬ 255 < x0 := by omega
          have h7 : ¬ (n : Int) ≤ x2 := by omega
          obtain ⟨S2, hS2⟩ : ∃ S2, S2 = bs s2 := ⟨_, rfl⟩
          rw [← hS2] at HQ
          have HS2 := Lib.hid hS2
          clear hq hq2 hE hE2 hE3 h1 h2 h3 h4 h5 hL hwd hS hS2
          go_wp2_with (go_at_call 37; go_loud ((refine HQ.out.mono ?_; rintro e1 w1 ⟨g, c, rfl, hb1, c0, c2⟩; have HB1 := Lib.hid (hB.out.trans (hb1.mono hB.out.size)); clear hb1)))
          go_roundg (k - (i + 1))
          case rel => exact ⟨i + 1, s2, S2, by omega, rfl, rfl, by go_num, HS2, HE3, HPL, HB1⟩
          case measure => omega
    · obtain rfl : i = k := by omega
      have i1 : ¬ (i : Int) < (i : Int) := by omega
      have hE2 := hE.out
      rw [Nat.sub_self] at hE2
      have hE3 : 3 = R := hE2
      subst hE3
      clear hE hE2 hS hL
      go_wp2_with fail
      try rw [Exit.noGoto_ret]
      go_ret
      exact ⟨rfl, hB.out⟩
end Go.Proofs.Ytdjiknakbldggaa

/-
  Ways read so far and what is behind them, plainly; lists of lists in memory.
-/
namespace Go.Proofs.Ytdjiknakbldggaa
open Go.RowKit Go.Maps

namespace Fs
theorem rdN_head {n : Nat} {s : List UInt8} (h : cE s ≠ 0) : (rdN n s).1 = cE s := by unfold rdN; rw [if_pos h]
theorem rdN_big {n : Nat} {s : List UInt8} (h : cE s = 0) (h2 : 513 < cN s) : (rdN n s).1 = 3 := by unfold rdN; rw [if_neg (fun q => q h), if_pos h2]
theorem rdN_out {n : Nat} {s : List UInt8} (h : cE s = 0) (h2 : ¬ 513 < cN s) (h3 : cN s % 2 = 1) (h4 : cE (past s) ≠ 0) : (rdN n s).1 = cE (past s) := by unfold rdN; rw [if_neg (fun q => q h), if_neg h2, if_pos h3, if_pos h4]
theorem rdN_odd {n : Nat} {s : List UInt8} (h : cE s = 0) (h2 : ¬ 513 < cN s) (h3 : cN s % 2 = 1) (h4 : cE (past s) = 0) : rdN n s = ((rdWs ((cN s).toNat / 2) n (past (past s)) []).1, (some (cN (past s)), (rdWs ((cN s).toNat / 2) n (past (past s)) []).2.1), (rdWs ((cN s).toNat / 2) n (past (past s)) []).2.2) := by
  unfold rdN; rw [if_neg (fun q => q h), if_neg h2, if_pos h3, if_neg (fun q => q h4)]
theorem rdN_even {n : Nat} {s : List UInt8} (h : cE s = 0) (h2 : ¬ 513 < cN s) (h3 : ¬ cN s % 2 = 1) : rdN n s = ((rdWs ((cN s).toNat / 2) n (past s) []).1, (none, (rdWs ((cN s).toNat / 2) n (past s) []).2.1), (rdWs ((cN s).toNat / 2) n (past s) []).2.2) := by
  unfold rdN; rw [if_neg (fun q => q h), if_neg h2, if_neg h3]
theorem rdWs_more : ∀ (k n : Nat) (s : List UInt8) (acc : List (UInt8 × Int × Nat)), (rdWs k n s acc).1 = 0 → ∃ more, (rdWs k n s acc).2.1 = acc ++ more
  | 0, _, _, acc, _ => ⟨[], by rw [List.append_nil]; rfl⟩
  | k + 1, n, s, acc, h => by
    by_cases h0 : (rdW n s).1 = 0
    · rw [rdWs_ok h0] at h ⊢
      obtain ⟨more, e⟩ := rdWs_more k n _ _ h
      exact ⟨(rdW n s).2.1 :: more, by rw [e]; simp⟩
    · rw [rdWs_bad h0] at h
      exact absurd h h0
/-- What is behind an end and ways. -/
def upTo (T : List (List En)) (f : Option Int) (ws : List (UInt8 × Int × Nat)) : List En := ofEnd f ++ ws.flatMap fun w => upW w.1 w.2.1 (T.getD w.2.2 [])
theorem upTo_ent (T : List (List En)) (d : Nd) : ent T d = upTo T d.1 d.2 := rfl
theorem upTo_nil (T : List (List En)) (f : Option Int) : upTo T f [] = ofEnd f := by unfold upTo; simp
theorem upTo_snoc (T : List (List En)) (f : Option Int) (ws : List (UInt8 × Int × Nat)) (w : UInt8 × Int × Nat) : upTo T f (ws ++ [w]) = upTo T f ws ++ upW w.1 w.2.1 (T.getD w.2.2 []) := by unfold upTo; simp
theorem upTo_more (T : List (List En)) (f : Option Int) (ws more : List (UInt8 × Int × Nat)) : ∃ k, upTo T f (ws ++ more) = upTo T f ws ++ k := ⟨_, by unfold upTo; rw [List.flatMap_append, ← List.append_assoc]⟩
theorem upW_take (c : UInt8) (m : Int) (l : List En) {j : Nat} (h : j < l.length) : upW c m (l.take (j + 1)) = upW c m (l.take j) ++ [(c :: l[j].1, wrap64 (l[j].2 + m))] := by
  rw [List.take_succ_eq_append_getElem h]
  unfold upW
  rw [List.map_append]
  rfl
/-- One more makes it too wide. -/
theorem wide_of {T : List (List En)} {f : Option Int} {ws more : List (UInt8 × Int × Nat)} {c : UInt8} {m : Int} {tt j : Nat} {t : List En} (ht : T.getD tt [] = t) (hj : j < t.length)
    (h : 65536 ≤ (upTo T f ws ++ upW c m (t.take j)).length ∨ 64 ≤ (t[j]'hj).1.length) : Wide (upTo T f ((ws ++ [(c, m, tt)]) ++ more)) := by
  obtain ⟨k, hk⟩ := upTo_more T f (ws ++ [(c, m, tt)]) more
  rw [hk, upTo_snoc]
  dsimp only
  rw [ht]
  have e : upW c m t = upW c m (t.take j) ++ ((c :: (t[j]'hj).1, wrap64 ((t[j]'hj).2 + m)) :: upW c m (t.drop (j + 1))) := by
    conv => lhs; rw [← List.take_append_drop j t, List.drop_eq_getElem_cons hj]
    unfold upW
    rw [List.map_append, List.map_cons]
  rw [e]
  unfold Wide
  rw [List.length_append, List.length_append, List.length_append, List.length_cons, deep_append, deep_append, deep_append]
  rw [List.length_append] at h
  have hd : (t[j]'hj).1.length + 1 ≤ deep ((c :: (t[j]'hj).1, wrap64 ((t[j]'hj).2 + m)) :: upW c m (t.drop (j + 1))) := by
    have := deep_le (l := (c :: (t[j]'hj).1, wrap64 ((t[j]'hj).2 + m)) :: upW c m (t.drop (j + 1))) (List.mem_cons_self ..)
    simpa using this
  omega
/-- One more, and it is not too wide. -/
theorem slim_of {a : List En} {c : UInt8} {x : List UInt8} {z : Int} (h : a.length ≤ 65536 ∧ deep a ≤ 64) (h1 : ¬ 65536 ≤ a.length) (h2 : ¬ 64 ≤ x.length) : (a ++ [(c :: x, z)]).length ≤ 65536 ∧ deep (a ++ [(c :: x, z)]) ≤ 64 := by
  rw [List.length_append, deep_append]
  have e : deep [(c :: x, z)] = max (x.length + 1) 0 := rfl
  rw [e, List.length_singleton]
  omega
end Fs
/-- Lists of terms of the call's own. -/
structure LsO (w : World) (B : Nat) (nv : Value) (Ls : List Value) (T : List (List Fs.En)) : Prop where
  row : w.ownsRow B 22 1 nv T.length Ls
  lists : ∀ i (_ : i < T.length), ∃ v, Ls[i]? = some v ∧ OwnE w B v T[i]
theorem LsO.nil (w : World) (B : Nat) : LsO w B (.slice none 0 0) [] [] := ⟨World.ownsRow_nil _ _ _ _, fun _ h => absurd h (Nat.not_lt_zero _)⟩
theorem LsO.below {w w' : World} {B : Nat} {nv : Value} {Ls : List Value} {T : List (List Fs.En)} (h : LsO w B nv Ls T) (hb : Below w.heap.size w w') : LsO w' B nv Ls T :=
  ⟨ownsRow_keep h.row fun k hk => hb.block k (own_kind h.row k hk).2.1, fun i hi => by
    obtain ⟨v, h1, h2⟩ := h.lists i hi
    exact ⟨v, h1, ownsRow_keep h2 fun k hk => hb.block k (own_kind h2 k hk).2.1⟩⟩
theorem LsO.form {w : World} {B : Nat} {nv : Value} {Ls : List Value} {T : List (List Fs.En)} (h : LsO w B nv Ls T) : ∃ a c, nv = .slice a T.length c := by
  obtain ⟨a, c, e, _⟩ := own_form h.row
  exact ⟨a, c, e⟩
theorem LsO.at {w : World} {B : Nat} {nv : Value} {Ls : List Value} {T : List (List Fs.En)} (h : LsO w B nv Ls T) {i : Nat} (hi : i < T.length) : ∃ g cap a c, nv = .slice (some ⟨g, 0, none⟩) T.length cap ∧ g < w.heap.size ∧ w.cell? ⟨g, i, none⟩ = some (.slice a T[i].length c) ∧ OwnE w B (.slice a T[i].length c) T[i] := by
  obtain ⟨v, h1, h2⟩ := h.lists i hi
  obtain ⟨a, c, rfl⟩ := h2.form
  rcases h.row.2 with ⟨_, h0⟩ | ⟨g, cap, cur, rfl, hg, hh, hnc, hcp, hcs, htake⟩
  · omega
  · have hown : w.ownsRow B 22 1 (.slice (some ⟨g, 0, none⟩) T.length cap) T.length Ls := h.row
    have := hown.cells (g := g) rfl i _ h1
    rw [Addr.add_lit, Nat.zero_add] at this
    exact ⟨g, cap, a, c, rfl, (hown.lt g rfl).2, this, h2⟩
theorem LsO.push {w w5 : World} {B g cap n : Nat} {nv v : Value} {Ls : List Value} {T : List (List Fs.En)} {t : List Fs.En} (h : LsO w B nv Ls T) (hn : n = T.length) (hv : OwnE w B v t)
    (hown : w5.ownsRow B 22 1 (.slice (some ⟨g, 0, none⟩) (n + 1) cap) (n + 1) (Ls ++ [v])) (hg : Grew w w5 nv (.slice (some ⟨g, 0, none⟩) (n + 1) cap)) : LsO w5 B (.slice (some ⟨g, 0, none⟩) (n + 1) cap) (Ls ++ [v]) (T ++ [t]) := by
  subst hn
  have k1 : KeptT [26] B w w5 := hg.keptT h.row (by decide)
  have hlen : Ls.length = T.length := by rw [h.row.1, Nat.mul_one]
  refine ⟨by rw [List.length_append]; exact hown, fun i hi => ?_⟩
  rcases Nat.lt_or_ge i T.length with q | q
  · obtain ⟨v', a1, a2⟩ := h.lists i q
    refine ⟨v', by rw [List.getElem?_append_left (by omega)]; exact a1, ?_⟩
    rw [List.getElem_append_left q]
    exact a2.kt k1 (by decide)
  · have hi2 : i = T.length := by
      rw [List.length_append, List.length_singleton] at hi
      omega
    subst hi2
    refine ⟨v, by rw [List.getElem?_append_right (by omega), hlen, Nat.sub_self]; rfl, ?_⟩
    rw [List.getElem_append_right (Nat.le_refl _)]
    simp only [Nat.sub_self, List.getElem_cons_zero]
    exact hv.kt k1 (by decide)
/-- '[]byte(c)' as a text. -/
theorem byte_text (c : UInt8) : ∀ W : World, (convert 79 9 (.slice (some ⟨W.heap.size, 0, none⟩) 1 1)).run Try.prog (W.alloc (.cells #[.int .u8 (c.toNat : Nat)] 5)) = .ok (.string (bs [c])) (W.alloc (.cells #[.int .u8 (c.toNat : Nat)] 5)) := by
  intro W
  have ho : OwnB (W.alloc (.cells #[.int .u8 (c.toNat : Nat)] 5)) 0 (.slice (some ⟨W.heap.size, 0, none⟩) 1 1) [c] := World.ownsRow_lit (base := 0) (e := 5) (size := 1) W #[.int .u8 (c.toNat : Nat)] 1 (Nat.zero_le _) (by unfold maxLen; omega) rfl
  exact own_conv ho
end Go.Proofs.Ytdjiknakbldggaa

/-
  The document's Open.
-/
namespace Go.Proofs.Ytdjiknakbldggaa
open Go.RowKit Go.Maps

theorem OwnE.stored {w : World} {B g n c : Nat} {l : List Fs.En} (h : OwnE w B (.slice (some ⟨g, 0, none⟩) n c) l) (hn : n = l.length) (j : Nat) (hj : j < l.length) (z : Int) : OwnE (w.setCell ⟨g, j * 2 + 1, none⟩ (.int .i64 z)) B (.slice (some ⟨g, 0, none⟩) n c) (l.set j (l[j].1, z)) := by
  subst hn
  have h1 : w.ownsRow B 26 2 (.slice (some ⟨g, 0, none⟩) l.length c) l.length (entV l) := h
  have h2 := (h1.stored (j * 2 + 1) (.int .i64 z)).1
  unfold OwnE
  rw [entV_set l j hj z] at h2
  rw [List.length_set]
  exact h2
theorem addW_step (L : Int) (t : List Fs.En) (j : Nat) (hj : j < t.length) : (Fs.addW L (t.take j) ++ t.drop j).set j (t[j].1, wrap64 (t[j].2 + L)) = Fs.addW L (t.take (j + 1)) ++ t.drop (j + 1) := by
  have hl : (Fs.addW L (t.take j)).length = j := by unfold Fs.addW; rw [List.length_map, List.length_take]; omega
  rw [List.set_append_right j _ (by omega), hl, Nat.sub_self, List.drop_eq_getElem_cons hj, List.set_cons_zero, List.take_succ_eq_append_getElem hj]
  unfold Fs.addW
  rw [List.map_append, List.append_assoc]
  rfl
theorem addW_at (L : Int) (t : List Fs.En) (j : Nat) (hj : j < t.length) (h : j < (Fs.addW L (t.take j) ++ t.drop j).length) : (Fs.addW L (t.take j) ++ t.drop j)[j]'h = t[j] := by
  have hl : (Fs.addW L (t.take j)).length = j := by unfold Fs.addW; rw [List.length_map, List.length_take]; omega
  rw [List.getElem_append_right (by omega)]
  simp [hl]
theorem int_cell {w w' : World} {B g j : Nat} {x : Value} (h : ∃ cs fz, w.heap[g]? = some (Obj.cells cs 3 fz)) (k : KeptT [3] B w w') (hc : w.cell? ⟨g, j, none⟩ = some x) : w'.cell? ⟨g, j, none⟩ = some x := by
  obtain ⟨cs, fz, h⟩ := h
  exact (World.cell?_of_block (w := w) (a := ⟨g, j, none⟩) (k.kind g _ _ _ h (by decide))).trans hc
theorem byte_textD (c : UInt8) : ∀ W : World, (convert 79 9 (.slice (some ⟨W.heap.size, 0, none⟩) 1 1)).run Try.prog ((W.alloc (.cells #[.int .u8 (c.toNat : Nat)] 5)).drew) = .ok (.string (bs [c])) ((W.alloc (.cells #[.int .u8 (c.toNat : Nat)] 5)).drew) := by
  intro W
  have h1 : OwnB (W.alloc (.cells #[.int .u8 (c.toNat : Nat)] 5)) 0 (.slice (some ⟨W.heap.size, 0, none⟩) 1 1) [c] := World.ownsRow_lit (base := 0) (e := 5) (size := 1) W #[.int .u8 (c.toNat : Nat)] 1 (Nat.zero_le _) (by unfold maxLen; omega) rfl
  have ho : OwnB ((W.alloc (.cells #[.int .u8 (c.toNat : Nat)] 5)).drew) 0 (.slice (some ⟨W.heap.size, 0, none⟩) 1 1) [c] := h1
  exact own_conv ho
theorem new_cells2 (w : World) (o : Obj) (cs : List Value) (e : TypeId) : ∀ j u, cs[j]? = some u → ((w.alloc o).alloc (.cells cs.toArray e)).cell? ((⟨w.heap.size + 1, 0, none⟩ : Addr).add j) = some u := by
  have h := new_cells (w.alloc o) cs e
  rw [World.size_alloc] at h
  exact h
/-- What the document's Open answers. -/
def OpenRPost (w : World) (OE : Int) (A : List Fs.En) (e : Ending) (w' : World) : Prop :=
  Below w.heap.size w w' ∧ ((OE ≠ 0 ∧ e = .returned (.tuple #[.slice none 0 0, .int .i64 OE])) ∨ (OE = 0 ∧ ∃ v, e = .returned (.tuple #[v, .int .i64 0]) ∧ EnS w' v A))
set_option maxRecDepth 100000 in
set_option maxHeartbeats 4000000 in
theorem openR_bad (s : List UInt8) (w : World) (hs : s.length ≤ 4194304) (h : (Fs.nums 2 s []).1 ≠ 0) :
    Calls Try.prog 14 #[.string (bs s)] w fun e w' => e = .returned (.tuple #[.slice none 0 0, .int .i64 (Fs.nums 2 s []).1]) ∧ Below w.heap.size w w' := by
  have HQ := Lib.hid (numbers_err s 2 w (by omega) (by omega) h)
  generalize (Fs.nums 2 s []).1 = E at *
  have h2 : ¬ E = 0 := h
  generalize bs s = S at *
  go_enter Try.func14, Try.ntmps14
  go_wp2_with (go_at_call 37; go_loud ((refine HQ.out.mono ?_; rintro e1 w1 ⟨rfl, hb1⟩; have HB1 := Lib.hid hb1; clear hb1)))
  try rw [Exit.noGoto_ret]
  go_ret2
  exact ⟨rfl, HB1.out⟩
set_option maxRecDepth 100000 in
set_option maxHeartbeats 32000000 in
theorem openR_good (s : List UInt8) (w : World) (hs : s.length ≤ 4194304) (he : Fs.cE s = 0) (he2 : Fs.cE (Fs.past s) = 0) (R : Int × (List Fs.Nd × List (List Fs.En)) × List UInt8) (hR : R = Fs.rdNs (Fs.cN s).toNat (Fs.past (Fs.past s)) [] []) (L : Int) (hL : L = Fs.cN (Fs.past s)) (OE : Int)
    (hOE : OE = if R.1 ≠ 0 then R.1 else if R.2.2 ≠ [] then 5 else if Fs.right (Fs.addW L (R.2.1.2.getLast?.getD [])) = 0 ∧ Fs.bytes (Fs.addW L (R.2.1.2.getLast?.getD [])) = s then 0 else 3) :
    Calls Try.prog 14 #[.string (bs s)] w (OpenRPost w OE (Fs.addW L (R.2.1.2.getLast?.getD []))) := by
  have h2 : (Fs.nums 2 s []).1 = 0 := by rw [Fs.nums_two, if_neg (fun q => q he), if_neg (fun q => q he2)]
  have h3 : (Fs.nums 2 s []).2.1 = [Fs.cN s, Fs.cN (Fs.past s)] := by rw [Fs.nums_two, if_neg (fun q => q he), if_neg (fun q => q he2)]
  have h4 : (Fs.nums 2 s []).2.2 = Fs.past (Fs.past s) := by rw [Fs.nums_two, if_neg (fun q => q he), if_neg (fun q => q he2)]
  have hq := numbers_ok s 2 w (by omega) (by omega) h2 _ _ h3 h4 (by simp)
  have hs0 : (Fs.past (Fs.past s)).length ≤ 4194304 := Nat.le_trans (Fs.past_le _) (Nat.le_trans (Fs.past_le _) hs)
  have hbn := cN_bd s
  obtain ⟨cnt, hcnt⟩ := Int.eq_ofNat_of_zero_le hbn.1
  rw [← hL] at hq
  rw [hcnt] at hq hR hbn
  rw [Int.toNat_natCast] at hR
  have hLb := cN_bd (Fs.past s)
  rw [← hL] at hLb
  generalize Fs.past (Fs.past s) = s0 at *
  obtain ⟨S0, hS0⟩ : ∃ S, S = bs s0 := ⟨_, rfl⟩
  rw [← hS0] at hq
  have HS0 := Lib.hid hS0
  have HQ : Hid (Calls Try.prog 37 #[.string (bs s), .int .i64 2] w fun e w' => ∃ g c, e = .returned (.tuple #[.slice (some ⟨g, 0, none⟩) 2 c, .string S0, .int .i64 0]) ∧ Below w.heap.size w w' ∧ g < w'.heap.size ∧ w'.cell? ⟨g, 0, none⟩ = some (.int .i64 (cnt : Int)) ∧ w'.cell? ⟨g, 1, none⟩ = some (.int .i64 L)) := by
    refine hq.mono ?_
    rintro e w' ⟨g, c, rfl, hb, hg, hc, _⟩
    exact ⟨g, c, rfl, hb, hg, hc 0 (by simp), hc 1 (by simp)⟩
  have HR0 : Hid (Fs.rdNs cnt s0 [] [] = R) := hR.symm
  have HOE := Lib.hid hOE
  obtain ⟨WS, hWS⟩ : ∃ WS, WS = bs s := ⟨_, rfl⟩
  rw [← hWS] at HQ ⊢
  have HWS := Lib.hid hWS
  have HLB := Lib.hid hLb
  clear he he2 hR hL hOE h2 h3 h4 hq hcnt hS0 hWS hs
  go_enter Try.func14, Try.ntmps14
  go_wp2_with (go_at_call 37; go_loud ((refine HQ.out.mono ?_; rintro e1 w1 ⟨gh, ch, rfl, hb1, hgh, c0, c1⟩; have HB1 := Lib.hid hb1; have HH : Hid (∀ wx, Below w1.heap.size w1 wx → wx.cell? ⟨gh, 0, none⟩ = some (.int .i64 (cnt : Int)) ∧ wx.cell? ⟨gh, 1, none⟩ = some (.int .i64 L)) := (fun wx hb => ⟨(hb.cell (p := ⟨gh, 0, none⟩) hgh).trans c0, (hb.cell (p := ⟨gh, 1, none⟩) hgh).trans c1⟩); clear hb1)))
  go_loopg [0, 7, 8] cnt (fun gg s0' s7 s8 wx => ∃ (i : Nat) (s' : List UInt8) (S : ByteArray) (N : List Fs.Nd) (T : List (List Fs.En)) (nv : Value) (Ls : List Value), i ≤ cnt ∧ gg = cnt - i ∧ s0' = .string S ∧ nv = s7 ∧ s8 = .int .i64 (i : Int) ∧ Hid (S = bs s') ∧ Hid (N.length = i ∧ T.length = i) ∧ Hid (∀ t ∈ T, ¬ Fs.Wide t) ∧ Hid (Fs.rdNs (cnt - i) s' N T = R) ∧ Hid (i + s'.length ≤ 4194304) ∧ Hid (LsO wx w1.heap.size nv Ls T) ∧ Hid (Below w1.heap.size w1 wx))
  case atStart => exact ⟨0, s0, S0, [], [], _, [], Nat.zero_le _, rfl, rfl, rfl, rfl, HS0, ⟨rfl, rfl⟩, fun _ q => absurd q List.not_mem_nil, HR0.out, (by show 0 + _ ≤ _; omega), LsO.nil _ _, Below.refl _ _⟩
  case round =>
    clear HS0 HR0 c0 c1 hgh HQ
    obtain ⟨i, s', S, N, T, nv, Ls, hi, rfl, rfl, rfl, rfl, hS, hNT, hWd, hE, hLn, hO, hB⟩ := hrel
    obtain ⟨c0, c1⟩ := HH.out wr hB.out
    have hib : i ≤ 4194304 := by have := hLn.out; omega
    have hsl : s'.length ≤ 4194304 := by have := hLn.out; omega
    by_cases hin : i < cnt
    · have i1 : (i : Int) < (cnt : Int) := by omega
      have hNj := hNT.out.1
      have hE2 := hE.out
      rw [show cnt - i = (cnt - (i + 1)) + 1 by omega] at hE2
      have hRB : (Fs.rdN i s').1 ≠ 0 → R.1 = (Fs.rdN i s').1 := fun h => by
        rw [Fs.rdNs_bad (by rw [hNj]; exact h), hNj] at hE2
        rw [← hE2]
      have hRW : (Fs.rdN i s').1 = 0 → Fs.Wide (Fs.ent T (Fs.rdN i s').2.1) → R.1 = 3 := fun h1 h2 => by
        rw [Fs.rdNs_wide (by rw [hNj]; exact h1) (by rw [hNj]; exact h2)] at hE2
        rw [← hE2]
      have hRO : (Fs.rdN i s').1 = 0 → ¬ Fs.Wide (Fs.ent T (Fs.rdN i s').2.1) → Fs.rdNs (cnt - (i + 1)) (Fs.rdN i s').2.2 (N ++ [(Fs.rdN i s').2.1]) (T ++ [Fs.ent T (Fs.rdN i s').2.1]) = R := fun h1 h2 => by
        rw [Fs.rdNs_ok (by rw [hNj]; exact h1) (by rw [hNj]; exact h2), hNj] at hE2
        exact hE2
      have hlt := fun h => Fs.rdN_lt (n := i) (s := s') h
      obtain ⟨an, cn, rfl⟩ : ∃ a c, nv = .slice a i c := by
        obtain ⟨a, c, e⟩ := hO.out.form
        rw [hNT.out.2] at e
        exact ⟨a, c, e⟩
      have HOO := Lib.hid hO.out
      have HBB := Lib.hid hB.out
      by_cases hc : Fs.cE s' = 0
      · have hq1 := numbers_ok s' 1 wr (by omega) (by omega) (L := [Fs.cN s']) (r := Fs.past s') (by rw [Fs.nums_one, if_neg (fun q => q hc)]) (by rw [Fs.nums_one, if_neg (fun q => q hc)]) (by rw [Fs.nums_one, if_neg (fun q => q hc)]) (by simp)
        have hbN := cN_bd s'
        obtain ⟨N0, hN0⟩ := Int.eq_ofNat_of_zero_le hbN.1
        rw [← hS.out, hN0] at hq1
        obtain ⟨S1, hS1⟩ : ∃ S1, S1 = bs (Fs.past s') := ⟨_, rfl⟩
        rw [← hS1] at hq1
        have HQ1 : Hid (Calls Try.prog 37 #[.string S, .int .i64 1] wr fun e w' => ∃ g c, e = .returned (.tuple #[.slice (some ⟨g, 0, none⟩) 1 c, .string S1, .int .i64 0]) ∧ Below wr.heap.size wr w' ∧ w'.cell? ⟨g, 0, none⟩ = some (.int .i64 (N0 : Int)) ∧ ∃ cs fz, w'.heap[g]? = some (Obj.cells cs 3 fz)) := by
          refine hq1.mono ?_
          rintro e w' ⟨g, c, rfl, hb, hg, hcc, hk⟩
          exact ⟨g, c, rfl, hb, hcc 0 (by simp), hk⟩
        clear hq1
        by_cases hbig : 513 < N0
        · have hR3 : R.1 = 3 := by
            have := Fs.rdN_big (n := i) hc (by rw [hN0]; omega)
            rw [← this]
            exact hRB (by rw [this]; decide)
          have b1 : (513 : Int) < (N0 : Int) := by omega
          have HR3 := Lib.hid hR3
          clear hE hE2 hRB hRW hRO hlt hO hB hNT hWd hS hLn hNj hS1 hN0 hbN hc hR3
          go_wp2_with (go_at_call 37; go_loud ((refine HQ1.out.mono ?_; rintro e2 wq1 ⟨gv, cv, rfl, hb2, cv0, hvk⟩; have HBW := Lib.hid (HBB.out.trans (hb2.mono HBB.out.size)); have HBV1 := Lib.hid hb2; clear hb2)))
          try rw [Exit.noGoto_ret]
          go_ret2
          have hoe : OE = R.1 := by
            have := HOE.out
            rw [if_pos (by rw [HR3.out]; first | decide | exact hE0)] at this
            exact this
          exact ⟨HB1.out.trans (HBW.out.mono HB1.out.size), .inl ⟨by rw [hoe, HR3.out]; first | decide | exact hE0, by rw [hoe, HR3.out]; first | rfl | done⟩⟩
        · have b1 : ¬ (513 : Int) < (N0 : Int) := by omega
          obtain ⟨q, hq⟩ : ∃ q, q = N0 / 2 := ⟨_, rfl⟩
          have hq2 : (N0 : Int).tdiv 2 = (q : Int) := by rw [hq]; rfl
          have hqb : q ≤ 256 := by omega
          have hN0t : (Fs.cN s').toNat / 2 = q := by rw [hN0, Int.toNat_natCast, hq]
          by_cases hxx : N0 % 2 = 1 ∧ Fs.cE (Fs.past s') ≠ 0
          · obtain ⟨hpar, hc2⟩ := hxx
            have hq3 : (N0 : Int).tmod 2 = 1 := by
              have : (N0 : Int).tmod 2 = ((N0 % 2 : Nat) : Int) := rfl
              omega
            have hpl : (Fs.past s').length ≤ 140737488355328 := Nat.le_trans (Fs.past_le _) (by omega)
            have hR3 : R.1 = Fs.cE (Fs.past s') := by
              have := Fs.rdN_out (n := i) hc (by rw [hN0]; omega) (by rw [hN0]; omega) hc2
              rw [← this]
              exact hRB (by rw [this]; exact hc2)
            obtain ⟨E, hEE⟩ : ∃ E, E = Fs.cE (Fs.past s') := ⟨_, rfl⟩
            have HQ2 : Hid (∀ W', Calls Try.prog 37 #[.string S1, .int .i64 1] W' fun e w' => e = .returned (.tuple #[.slice none 0 0, .string ⟨#[]⟩, .int .i64 E]) ∧ Below W'.heap.size W' w') := fun W' => by
              have h1 : (Fs.nums 1 (Fs.past s') []).1 = E := by rw [Fs.nums_one, if_pos hc2, hEE]
              have := numbers_err (Fs.past s') 1 W' hpl (by omega) (by rw [h1, hEE]; exact hc2)
              rw [h1, ← hS1] at this
              exact this
            rw [← hEE] at hR3 hc2
            have hE0 : ¬ E = 0 := hc2
            have HR3 := Lib.hid hR3
            clear hE hE2 hRB hRW hRO hlt hO hB hNT hWd hS hLn hNj hS1 hN0 hbN hc hR3 hEE hc2 hpl hN0t hq
            go_wp2_with (first | (go_at_call 37; ((refine (HQ2.out wq1).mono ?_; rintro e3 wq2 ⟨rfl, hb3⟩; have HBW2 := Lib.hid (HBW.out.trans (hb3.mono HBW.out.size)); clear hb3))) | (go_at_call 37; go_loud ((refine HQ1.out.mono ?_; rintro e2 wq1 ⟨gv, cv, rfl, hb2, cv0, hvk⟩; have HBW := Lib.hid (HBB.out.trans (hb2.mono HBB.out.size)); have HBV1 := Lib.hid hb2; clear hb2))))
            try rw [Exit.noGoto_ret]
            go_ret2
            have hoe : OE = R.1 := by
              have := HOE.out
              rw [if_pos (by rw [HR3.out]; first | decide | exact hE0)] at this
              exact this
            exact ⟨HB1.out.trans (HBW2.out.mono HB1.out.size), .inl ⟨by rw [hoe, HR3.out]; first | decide | exact hE0, by rw [hoe, HR3.out]; first | rfl | done⟩⟩
          · by_cases hpar : N0 % 2 = 1
            case' pos =>
              have hc2 : Fs.cE (Fs.past s') = 0 := by
                by_cases q : Fs.cE (Fs.past s') = 0
                · exact q
                · exact absurd ⟨hpar, q⟩ hxx
              have hq3 : (N0 : Int).tmod 2 = 1 := by
                have : (N0 : Int).tmod 2 = ((N0 % 2 : Nat) : Int) := rfl
                omega
              have hpl : (Fs.past s').length ≤ 140737488355328 := Nat.le_trans (Fs.past_le _) (by omega)
              have hrd := Fs.rdN_odd (n := i) hc (by rw [hN0]; omega) (by rw [hN0]; omega) hc2
              rw [hN0t] at hrd
              obtain ⟨ov, hov⟩ : ∃ ov, ov = Fs.cN (Fs.past s') := ⟨_, rfl⟩
              obtain ⟨S2, hS2⟩ : ∃ S2, S2 = bs (Fs.past (Fs.past s')) := ⟨_, rfl⟩
              have HQ2 : Hid (∀ W', Calls Try.prog 37 #[.string S1, .int .i64 1] W' fun e w' => ∃ g c, e = .returned (.tuple #[.slice (some ⟨g, 0, none⟩) 1 c, .string S2, .int .i64 0]) ∧ Below W'.heap.size W' w' ∧ w'.cell? ⟨g, 0, none⟩ = some (.int .i64 ov)) := fun W' => by
                have h1 := numbers_ok (Fs.past s') 1 W' hpl (by omega) (L := [Fs.cN (Fs.past s')]) (r := Fs.past (Fs.past s')) (by rw [Fs.nums_one, if_neg (fun q => q hc2)]) (by rw [Fs.nums_one, if_neg (fun q => q hc2)]) (by rw [Fs.nums_one, if_neg (fun q => q hc2)]) (by simp)
                rw [← hS1, ← hS2, ← hov] at h1
                refine h1.mono ?_
                rintro e w' ⟨g, c, rfl, hb, hg, hcc, hk⟩
                exact ⟨g, c, rfl, hb, hcc 0 (by simp)⟩
              rw [← hov] at hrd
              have hs1l : (Fs.past (Fs.past s')).length ≤ 140737488355328 := Nat.le_trans (Fs.past_le _) hpl
              generalize Fs.past (Fs.past s') = s1 at *
              have HS2 := Lib.hid hS2
              obtain ⟨iE, hiE, hzE0, hzE1, hzE2⟩ := info_parts Try.infoE
              obtain ⟨wo, hwo⟩ : ∃ wo, wo = wr := ⟨_, rfl⟩
              rw [← hwo] at HQ1 HOO HBB c0 c1 ⊢
              clear hE hE2 hO hB hS hS1 hbN hc hc2 hpl hN0t hq hov hS2 hwo hN0 hxx
              go_wp2_with (first | (go_at_call 37; ((refine (HQ2.out wq1).mono ?_; rintro e3 wq2 ⟨go, co, rfl, hb3, co0⟩; have HBU2 := Lib.hid hb3; have HBV2 := Lib.hid (HBV1.out.trans (hb3.mono HBV1.out.size)); clear hb3))) | (go_at_call 37; go_loud ((refine HQ1.out.mono ?_; rintro e2 wq1 ⟨gv, cv, rfl, hb2, cv0, hvk⟩; have HBV1 := Lib.hid hb2; have HVC : Hid (wq1.cell? ⟨gv, 0, none⟩ = some (.int .i64 (N0 : Int)) ∧ ∃ cs fz, wq1.heap[gv]? = some (Obj.cells cs 3 fz)) := ⟨cv0, hvk⟩; clear hb2 hvk))) | (at_builtin; go_loud ((refine wpList_pushR rfl _ _ 22 26 rfl iE _ 2 24 Try.underlying22 hiE hzE0 hzE1 hzE2 rfl (by decide) wo.heap.size HBV2.out.size (.slice none 0 0) 0 [] rfl (World.ownsRow_nil _ _ _ _) [.string ⟨#[]⟩, .int .i64 ov] rfl (one_of rfl) (by first | rfl | (rw [World.size_alloc]; rfl)) (by omega) (by omega) ?_; intro g5 cap5 w5 hown5 hgr5; have hb5 : Below wo.heap.size wo w5 := hgr5.below HBV2.out HBV2.out.size (fun k hk => by cases hk); have hk5 : KeptT [3] wo.heap.size wq2 w5 := hgr5.keptT (World.ownsRow_nil (w := wq2) wo.heap.size 26 2) (by decide); have HB5 := Lib.hid hb5; have HO5 : Hid (OwnE w5 wo.heap.size (.slice (some ⟨g5, 0, none⟩) 1 cap5) (Fs.ofEnd (some ov))) := hown5; have HVC5 : Hid (w5.cell? ⟨gv, 0, none⟩ = some (.int .i64 (N0 : Int)) ∧ ∃ cs fz, w5.heap[gv]? = some (Obj.cells cs 3 fz)) := (by obtain ⟨cs, fz, hgv⟩ := HVC.out.2; have hbq := HBU2.out; have e1 := hbq.block gv (Array.getElem?_eq_some_iff.1 hgv).1; have e2 := e1.trans hgv; exact ⟨(World.cell?_of_block (w := wq2) (a := ⟨gv, 0, none⟩) (hk5.kind gv _ _ _ e2 (by decide))).trans ((World.cell?_of_block (w := wq1) (a := ⟨gv, 0, none⟩) e1).trans HVC.out.1), cs, fz, (hk5.kind gv _ _ _ e2 (by decide)).trans e2⟩); clear hown5 hgr5 hb5 hk5))))
              obtain ⟨fin, hfin⟩ : ∃ fin : Option Int, fin = some ov := ⟨_, rfl⟩
              rw [← hfin] at hrd HO5
              clear hfin HBU2 HBV2 HQ2 HQ1 HVC cv0
              generalize w5 = W2 at *
            case' neg =>
              have hq3 : (N0 : Int).tmod 2 = 0 := by
                have : (N0 : Int).tmod 2 = ((N0 % 2 : Nat) : Int) := rfl
                omega
              have hrd := Fs.rdN_even (n := i) hc (by rw [hN0]; omega) (by rw [hN0]; omega)
              rw [hN0t] at hrd
              have hs1l : (Fs.past s').length ≤ 140737488355328 := Nat.le_trans (Fs.past_le _) (by omega)
              generalize Fs.past s' = s1 at *
              obtain ⟨S2, hS2⟩ : ∃ S2, S2 = S1 := ⟨_, rfl⟩
              rw [← hS2] at hS1 HQ1
              have HS2 := Lib.hid hS1
              obtain ⟨wo, hwo⟩ : ∃ wo, wo = wr := ⟨_, rfl⟩
              rw [← hwo] at HQ1 HOO HBB c0 c1 ⊢
              clear hE hE2 hO hB hS hS1 hbN hc hN0t hq hS2 hwo hN0 hxx
              go_wp2_with (go_at_call 37; go_loud ((refine HQ1.out.mono ?_; rintro e2 wq1 ⟨gv, cv, rfl, hb2, cv0, hvk⟩; have HBV1 := Lib.hid hb2; have HVC : Hid (wq1.cell? ⟨gv, 0, none⟩ = some (.int .i64 (N0 : Int)) ∧ ∃ cs fz, wq1.heap[gv]? = some (Obj.cells cs 3 fz)) := ⟨cv0, hvk⟩; clear hb2 hvk)))
              obtain ⟨fin, hfin⟩ : ∃ fin : Option Int, fin = none := ⟨_, rfl⟩
              have HO5 : Hid (OwnE wq1 wo.heap.size (.slice none 0 0) (Fs.ofEnd fin)) := by rw [hfin]; exact ownE_nil _ _
              have HVC5 := HVC
              have HB5 := HBV1
              rw [← hfin] at hrd
              clear hfin HQ1 HVC cv0 HBV1
              generalize wq1 = W2 at *
            all_goals
              obtain ⟨RW, hRWe⟩ : ∃ RW, RW = Fs.rdWs q i s1 [] := ⟨_, rfl⟩
              rw [← hRWe] at hrd
              rw [hrd] at hRB hRW hRO hlt
              have HRB : Hid (RW.1 ≠ 0 → R.1 = RW.1) := hRB
              have HRW : Hid (RW.1 = 0 → Fs.Wide (Fs.upTo T fin RW.2.1) → R.1 = 3) := hRW
              have HRO : Hid (RW.1 = 0 → ¬ Fs.Wide (Fs.upTo T fin RW.2.1) → Fs.rdNs (cnt - (i + 1)) RW.2.2 (N ++ [(fin, RW.2.1)]) (T ++ [Fs.upTo T fin RW.2.1]) = R) := hRO
              have HLT : Hid (RW.1 = 0 → RW.2.2.length < s'.length) := hlt
              have HRW0 : Hid (Fs.rdWs q i s1 [] = RW) := hRWe.symm
              have HSL := Lib.hid hs1l
              have HSB := Lib.hid hsl
              rw [← Fs.upTo_nil T fin] at HO5
              have HSZ0 : Hid ((Fs.upTo T fin []).length ≤ 65536 ∧ Fs.deep (Fs.upTo T fin []) ≤ 64) := by
                rw [Fs.upTo_nil]
                cases fin with
                | none => exact ⟨Nat.zero_le _, Nat.zero_le _⟩
                | some v => exact ⟨by show 1 ≤ 65536; omega, by show max 0 0 ≤ 64; omega⟩
              clear hrd hRB hRW hRO hlt hRWe hs1l hNj hq3 hpar hbig
              go_loopg [0, 9, 16] q (fun gg s0' s9 s16 wx => ∃ (k : Nat) (s2 : List UInt8) (S3 : ByteArray) (wsk : List (UInt8 × Int × Nat)) (lk : Value), k ≤ q ∧ gg = q - k ∧ s0' = .string S3 ∧ lk = s9 ∧ s16 = .int .i64 (k : Int) ∧ Hid (S3 = bs s2) ∧ Hid (Fs.rdWs (q - k) i s2 wsk = RW) ∧ Hid (s2.length ≤ 140737488355328) ∧ Hid (OwnE wx wo.heap.size lk (Fs.upTo T fin wsk)) ∧ Hid ((Fs.upTo T fin wsk).length ≤ 65536 ∧ Fs.deep (Fs.upTo T fin wsk) ≤ 64) ∧ Hid (KeptT [3] wo.heap.size W2 wx))
              case atStart => exact ⟨0, s1, S2, [], _, Nat.zero_le _, rfl, rfl, rfl, rfl, HS2, HRW0, HSL, HO5, HSZ0, KeptT.refl _ _ _⟩
              case round =>
                clear HRW0 HS2 HO5 HSZ0 HSL
                obtain ⟨k, s2, S3, wsk, lk, hk, rfl, rfl, rfl, rfl, hS3, hE3, hL3, hO3, hZ3, hK3⟩ := hrel
                have hvc : wr.cell? ⟨gv, 0, none⟩ = some (.int .i64 (N0 : Int)) := int_cell HVC5.out.2 hK3.out HVC5.out.1
                have HBO : Hid (Below wo.heap.size wo wr) := KeptT.below hK3.out HB5.out HB5.out.size
                by_cases hkq : k < q
                · have k1 : (k : Int) < (q : Int) := by omega
                  have hE4 := hE3.out
                  rw [show q - k = (q - (k + 1)) + 1 by omega] at hE4
                  rcases Fs.rdW_nums i s2 with ⟨n1, n2⟩ | ⟨n1, n2, n3, n4⟩
                  · rw [rdWs_bad (by rw [n2]; exact n1), n2] at hE4
                    have hR3 : R.1 = (Fs.nums 3 s2 []).1 := by
                      have e : RW.1 = (Fs.nums 3 s2 []).1 := by rw [← hE4]
                      rw [HRB.out (by rw [e]; exact n1), e]
                    have hq3 := numbers_err s2 3 wr hL3.out (by omega) n1
                    rw [← hS3.out] at hq3
                    have HQ3 := Lib.hid hq3
                    obtain ⟨E, hEE⟩ : ∃ E, E = (Fs.nums 3 s2 []).1 := ⟨_, rfl⟩
                    rw [← hEE] at hR3 n1 HQ3
                    have hE0 : ¬ E = 0 := n1
                    have HR3 := Lib.hid hR3
                    clear n1 n2 hE4 hE3 hR3 hq3 hEE hS3 hO3 hZ3 hK3 hL3
                    go_wp2_with (go_at_call 37; go_loud ((refine HQ3.out.mono ?_; rintro e4 wq3 ⟨rfl, hb4⟩; have HBW := Lib.hid (HBB.out.trans ((HBO.out.trans (hb4.mono HBO.out.size)).mono HBB.out.size)); clear hb4)))
                    try rw [Exit.noGoto_ret]
                    go_ret2
                    have hoe : OE = R.1 := by
                      have := HOE.out
                      rw [if_pos (by rw [HR3.out]; first | decide | exact hE0)] at this
                      exact this
                    exact ⟨HB1.out.trans (HBW.out.mono HB1.out.size), .inl ⟨by rw [hoe, HR3.out]; first | decide | exact hE0, by rw [hoe, HR3.out]; first | rfl | done⟩⟩
                  · have hx0 := (cN_bd s2).1
                    have hx2 := (cN_bd (Fs.past (Fs.past s2))).1
                    have hq3 := numbers_ok s2 3 wr hL3.out (by omega) n1 _ _ n2 n3 (by simp)
                    have hpl : (Fs.past (Fs.past (Fs.past s2))).length ≤ 140737488355328 := Nat.le_trans (Fs.past_le _) (Nat.le_trans (Fs.past_le _) (Nat.le_trans (Fs.past_le _) hL3.out))
                    obtain ⟨S4, hS4⟩ : ∃ S4, S4 = bs (Fs.past (Fs.past (Fs.past s2))) := ⟨_, rfl⟩
                    have HQ3 : Hid (Calls Try.prog 37 #[.string S3, .int .i64 3] wr fun e w' => ∃ g c, e = .returned (.tuple #[.slice (some ⟨g, 0, none⟩) 3 c, .string S4, .int .i64 0]) ∧ Below wr.heap.size wr w' ∧ (w'.cell? ⟨g, 0, none⟩ = some (.int .i64 (Fs.cN s2)) ∧ w'.cell? ⟨g, 1, none⟩ = some (.int .i64 (Fs.cN (Fs.past s2))) ∧ w'.cell? ⟨g, 2, none⟩ = some (.int .i64 (Fs.cN (Fs.past (Fs.past s2))))) ∧ ∃ cs fz, w'.heap[g]? = some (Obj.cells cs 3 fz)) := by
                      rw [← hS3.out, ← hS4] at hq3
                      refine hq3.mono ?_
                      rintro e w' ⟨g, c, rfl, hb, hg, hcc, hk⟩
                      exact ⟨g, c, rfl, hb, ⟨hcc 0 (by simp), hcc 1 (by simp), hcc 2 (by simp)⟩, hk⟩
                    have hE5 : ∀ c m tt s3, Fs.rdW i s2 = (0, (c, m, tt), s3) → Fs.rdWs (q - (k + 1)) i s3 (wsk ++ [(c, m, tt)]) = RW := fun c m tt s3 h => by
                      rw [rdWs_ok (by rw [h]), h] at hE4
                      exact hE4
                    have hE6 : (Fs.rdW i s2).1 = 3 → R.1 = 3 := fun h => by
                      rw [rdWs_bad (by rw [h]; decide), h] at hE4
                      have e : RW.1 = 3 := by rw [← hE4]
                      rw [HRB.out (by rw [e]; decide), e]
                    generalize Fs.past (Fs.past (Fs.past s2)) = s3 at *
                    generalize Fs.cN (Fs.past (Fs.past s2)) = x2 at *
                    generalize Fs.cN (Fs.past s2) = x1 at *
                    generalize Fs.cN s2 = x0 at *
                    rcases n4 with ⟨n4, n5⟩ | ⟨n4, n5⟩
                    · have HR3 := Lib.hid (hE6 n5)
                      by_cases h6 : 255 < x0
                      · clear n1 n2 n3 n4 n5 hE3 hE4 hE5 hE6 hq3 hS3 hO3 hZ3 hK3 hL3 hpl hS4
                        go_wp2_with (go_at_call 37; go_loud ((refine HQ3.out.mono ?_; rintro e4 wq3 ⟨gw, cw, rfl, hb4, ⟨y0, y1, y2⟩, _⟩; have HBW := Lib.hid (HBB.out.trans ((HBO.out.trans (hb4.mono HBO.out.size)).mono HBB.out.size)); clear hb4)))
                        try rw [Exit.noGoto_ret]
                        go_ret2
                        have hoe : OE = R.1 := by
                          have := HOE.out
                          rw [if_pos (by rw [HR3.out]; first | decide | exact hE0)] at this
                          exact this
                        exact ⟨HB1.out.trans (HBW.out.mono HB1.out.size), .inl ⟨by rw [hoe, HR3.out]; first | decide | exact hE0, by rw [hoe, HR3.out]; first | rfl | done⟩⟩
                      · have h7 : (i : Int) ≤ x2 := by omega
                        clear n1 n2 n3 n4 n5 hE3 hE4 hE5 hE6 hq3 hS3 hO3 hZ3 hK3 hL3 hpl hS4
                        go_wp2_with (go_at_call 37; go_loud ((refine HQ3.out.mono ?_; rintro e4 wq3 ⟨gw, cw, rfl, hb4, ⟨y0, y1, y2⟩, _⟩; have HBW := Lib.hid (HBB.out.trans ((HBO.out.trans (hb4.mono HBO.out.size)).mono HBB.out.size)); clear hb4)))
                        try rw [Exit.noGoto_ret]
                        go_ret2
                        have hoe : OE = R.1 := by
                          have := HOE.out
                          rw [if_pos (by rw [HR3.out]; first | decide | exact hE0)] at this
                          exact this
                        exact ⟨HB1.out.trans (HBW.out.mono HB1.out.size), .inl ⟨by rw [hoe, HR3.out]; first | decide | exact hE0, by rw [hoe, HR3.out]; first | rfl | done⟩⟩
                    · have h6 : ¬ 255 < x0 := by omega
                      have h7 : ¬ (i : Int) ≤ x2 := by omega
                      obtain ⟨tt, rfl⟩ := Int.eq_ofNat_of_zero_le hx2
                      obtain ⟨c, hce⟩ : ∃ c, c = UInt8.ofNat x0.toNat := ⟨_, rfl⟩
                      have hcx : x0 = (c.toNat : Int) := by
                        rw [hce, UInt8.toNat_ofNat']
                        omega
                      rw [Int.toNat_natCast, ← hce] at n5
                      have HE5 := Lib.hid (hE5 _ _ _ _ n5)
                      subst hcx
                      have hd6 : decide ((255 : Int) < (c.toNat : Int)) = false := decide_eq_false h6
                      have hd6n : decide (255 < c.toNat) = false := decide_eq_false (by omega)
                      have hd6m : ¬ 255 < c.toNat := by omega
                      have hd7 : decide ((i : Int) ≤ (tt : Int)) = false := decide_eq_false h7
                      have hd7n : decide (i ≤ tt) = false := decide_eq_false (by omega)
                      have htt : tt < T.length := by rw [hNT.out.2]; omega
                      have ht1 : (tt : Int) < (i : Int) := by omega
                      have ht0 : (0 : Int) ≤ (tt : Int) := by omega
                      obtain ⟨gn, cn', at_, ct, e5, hgn, hnc, hto⟩ := HOO.out.at htt
                      rw [hNT.out.2] at e5
                      injection e5 with e6 _ e7
                      subst e6 e7
                      obtain ⟨t, hte⟩ : ∃ t, t = T[tt] := ⟨_, rfl⟩
                      rw [← hte] at hnc hto
                      have HGT : Hid (T.getD tt [] = t) := by
                        show _ = _
                        rw [List.getD_eq_getElem?_getD, List.getElem?_eq_getElem htt, hte]
                        rfl
                      have HTB : Hid (t.length ≤ 65536 ∧ Fs.deep t ≤ 64) := by
                        have := hWd.out t (by rw [hte]; exact List.getElem_mem htt)
                        unfold Fs.Wide at this
                        show _ ∧ _
                        omega
                      obtain ⟨ge, ae, ce, e8, hq6, hq7, e9, hq8, hq9, hten, hq10⟩ := hto.opened
                      injection e8 with e10 e11 e12
                      clear hq6 hq7 hq8 hq9 hq10 e11 e12
                      have HTC : Hid (∀ wx, Below wo.heap.size wo wx → wx.cell? ⟨gn, tt, none⟩ = some (.slice at_ t.length ct) ∧ (0 < t.length → at_ = some ⟨ge, 0, none⟩ ∧ EnC wx ge 0 t)) := fun wx hb => ⟨(hb.cell (p := ⟨gn, tt, none⟩) hgn).trans hnc, fun h0 => by
                        obtain ⟨f1, f2⟩ := e9 h0
                        exact ⟨by rw [e10]; exact f1, hten.below hb f2⟩⟩
                      obtain ⟨nt, hnt⟩ : ∃ nt, nt = t.length := ⟨_, rfl⟩
                      have HNTT := Lib.hid hnt
                      rw [← hnt] at HTC
                      have HS4 := Lib.hid hS4
                      have HPL := Lib.hid hpl
                      clear n1 n2 n3 n4 n5 hE3 hE4 hE5 hE6 hq3 hS3 hL3 hpl hS4 hce hte e9 e10 hten hto hnc hgn hnt hx0 hx2
                      go_wp2_with (go_at_call 37; go_loud ((refine HQ3.out.mono ?_; rintro e4 wq3 ⟨gw, cw, rfl, hb4, ⟨y0, y1, y2⟩, hwk⟩; have HB4 := Lib.hid hb4; have HWC : Hid ((wq3.cell? ⟨gw, 0, none⟩ = some (.int .i64 (c.toNat : Nat)) ∧ wq3.cell? ⟨gw, 1, none⟩ = some (.int .i64 x1) ∧ wq3.cell? ⟨gw, 2, none⟩ = some (.int .i64 (tt : Int))) ∧ ∃ cs fz, wq3.heap[gw]? = some (Obj.cells cs 3 fz)) := ⟨⟨y0, y1, y2⟩, hwk⟩; clear hb4 hwk)))
                      have HK4 : Hid (KeptT [3] wo.heap.size W2 wq3) := hK3.out.trans (KeptT.of_below HB4.out)
                      have HO4 : Hid (OwnE wq3 wo.heap.size lk (Fs.upTo T fin wsk ++ Fs.upW c x1 (t.take 0))) := by
                        have e : Fs.upTo T fin wsk ++ Fs.upW c x1 (t.take 0) = Fs.upTo T fin wsk := by simp [Fs.upW]
                        rw [e]
                        exact ownsRow_keep hO3.out fun z hz => HB4.out.block z (own_kind hO3.out z hz).2.1
                      have HZ4 : Hid ((Fs.upTo T fin wsk ++ Fs.upW c x1 (t.take 0)).length ≤ 65536 ∧ Fs.deep (Fs.upTo T fin wsk ++ Fs.upW c x1 (t.take 0)) ≤ 64) := by
                        have e : Fs.upTo T fin wsk ++ Fs.upW c x1 (t.take 0) = Fs.upTo T fin wsk := by simp [Fs.upW]
                        rw [e]
                        exact hZ3.out
                      clear hO3 hZ3 hK3 HB4 HBO y0 y1 y2 hvc HQ3
                      go_loopg [9, 20] nt (fun gg s9 s20 wx => ∃ (j : Nat) (l3 : Value), j ≤ nt ∧ gg = nt - j ∧ l3 = s9 ∧ s20 = .int .i64 (j : Int) ∧ Hid (OwnE wx wo.heap.size l3 (Fs.upTo T fin wsk ++ Fs.upW c x1 (t.take j))) ∧ Hid ((Fs.upTo T fin wsk ++ Fs.upW c x1 (t.take j)).length ≤ 65536 ∧ Fs.deep (Fs.upTo T fin wsk ++ Fs.upW c x1 (t.take j)) ≤ 64) ∧ Hid (KeptT [3] wo.heap.size wq3 wx))
                      case atStart => exact ⟨0, lk, Nat.zero_le _, rfl, rfl, rfl, HO4, HZ4, KeptT.refl _ _ _⟩
                      case round =>
                        clear HO4 HZ4
                        obtain ⟨j, l3, hj, rfl, rfl, rfl, hO6, hZ6, hK6⟩ := hrel
                        have HK7 : Hid (KeptT [3] wo.heap.size W2 wr) := HK4.out.trans hK6.out
                        have HBO : Hid (Below wo.heap.size wo wr) := KeptT.below HK7.out HB5.out HB5.out.size
                        have y0 : wr.cell? ⟨gw, 0, none⟩ = some (.int .i64 (c.toNat : Nat)) := int_cell HWC.out.2 hK6.out HWC.out.1.1
                        have y1 : wr.cell? ⟨gw, 1, none⟩ = some (.int .i64 x1) := int_cell HWC.out.2 hK6.out HWC.out.1.2.1
                        have y2 : wr.cell? ⟨gw, 2, none⟩ = some (.int .i64 (tt : Int)) := int_cell HWC.out.2 hK6.out HWC.out.1.2.2
                        have hvc : wr.cell? ⟨gv, 0, none⟩ = some (.int .i64 (N0 : Int)) := int_cell HVC5.out.2 HK7.out HVC5.out.1
                        obtain ⟨z0, z1⟩ := HTC.out wr HBO.out
                        by_cases hjn : j < nt
                        · have j1 : (j : Int) < (nt : Int) := by omega
                          have hntb : nt ≤ 65536 := by have := HTB.out.1; have := HNTT.out; omega
                          obtain ⟨rfl, hten⟩ := z1 (by omega)
                          clear z1
                          have jl : j < t.length := by rw [← HNTT.out]; exact hjn
                          obtain ⟨v0, v1⟩ := hten j jl
                          rw [Nat.zero_add] at v0 v1
                          have hstep := Fs.upW_take c x1 t jl
                          have hxd := Fs.deep_le (List.getElem_mem jl)
                          have hwide := fun (more : List (UInt8 × Int × Nat)) h => Fs.wide_of (f := fin) (ws := wsk) (more := more) (c := c) (m := x1) HGT.out jl h
                          obtain ⟨xs, xo, hx⟩ : ∃ a b, t[j] = (a, b) := ⟨_, _, rfl⟩
                          rw [hx] at v0 v1 hstep hxd hwide
                          dsimp only at v0 v1 hstep hxd hwide
                          obtain ⟨A3, hA3⟩ : ∃ A3, A3 = Fs.upTo T fin wsk ++ Fs.upW c x1 (t.take j) := ⟨_, rfl⟩
                          have hO7 := hO6.out
                          have hZ7 := hZ6.out
                          rw [← hA3] at hO7 hZ7 hwide
                          have hA4 : Fs.upTo T fin wsk ++ Fs.upW c x1 (t.take (j + 1)) = A3 ++ [(c :: xs, wrap64 (xo + x1))] := by rw [hstep, ← List.append_assoc, hA3]
                          obtain ⟨n3, hn3⟩ : ∃ n3, n3 = A3.length := ⟨_, rfl⟩
                          obtain ⟨a3, c3, rfl⟩ : ∃ a c, l3 = .slice a n3 c := by
                            obtain ⟨a, c, e⟩ := hO7.form
                            exact ⟨a, c, by rw [hn3]; exact e⟩
                          have hwx : (65536 ≤ A3.length ∨ 64 ≤ xs.length) → R.1 = Fs.wide (q - (k + 1)) i s3 := fun h => by
                            have hw := Fs.wide_ws (q - (k + 1)) i s3 (wsk ++ [(c, x1, tt)])
                            rw [HE5.out] at hw
                            rw [hw]
                            by_cases h0 : RW.1 = 0
                            · rw [if_neg (fun q => q h0)]
                              refine HRW.out h0 ?_
                              obtain ⟨more, hmore⟩ := Fs.rdWs_more (q - (k + 1)) i s3 (wsk ++ [(c, x1, tt)]) (by rw [HE5.out]; exact h0)
                              rw [HE5.out] at hmore
                              rw [hmore]
                              exact hwide more h
                            · rw [if_pos h0]
                              exact HRB.out h0
                          have hw0 : Fs.wide (q - (k + 1)) i s3 ≠ 0 := by
                            have hw := Fs.wide_ws (q - (k + 1)) i s3 (wsk ++ [(c, x1, tt)])
                            rw [HE5.out] at hw
                            rw [hw]
                            by_cases h0 : RW.1 = 0
                            · rw [if_neg (fun q => q h0)]; decide
                            · rw [if_pos h0]; exact h0
                          have HWI : Hid (∀ W', Calls Try.prog 38 #[.string S4, .int .i64 ((q - (k + 1) : Nat) : Int), .int .i64 (i : Int)] W' fun e w' => e = .returned (.int .i64 (Fs.wide (q - (k + 1)) i s3)) ∧ Below W'.heap.size W' w') := fun W' => by
                            have := wide_any s3 (q - (k + 1)) i W' HPL.out (by omega)
                            rw [← HS4.out] at this
                            exact this
                          have hw1 : IntKind.i64.wrap ((q : Int) - (k : Int)) = ((q - k : Nat) : Int) := by rw [IntWalk.i64_in _ (by omega)]; omega
                          have hw2 : IntKind.i64.wrap (((q - k : Nat) : Int) - 1) = ((q - (k + 1) : Nat) : Int) := by rw [IntWalk.i64_in _ (by omega)]; omega
                          have hxs : (bs xs).size = xs.length := bs_size xs
                          obtain ⟨Tm, hTm⟩ : ∃ Tm, Tm = bs xs := ⟨_, rfl⟩
                          rw [← hTm] at v0 hxs
                          obtain ⟨xl, hxl⟩ : ∃ xl, xl = xs.length := ⟨_, rfl⟩
                          rw [← hxl] at hxs
                          obtain ⟨E, hEE⟩ : ∃ E, E = Fs.wide (q - (k + 1)) i s3 := ⟨_, rfl⟩
                          rw [← hEE] at HWI hwx hw0
                          have hE0 : ¬ E = 0 := hw0
                          have hvc2 : (wr.alloc (.cells #[.string Tm, .int .i64 xo] 26)).cell? ⟨gv, 0, none⟩ = some (.int .i64 (N0 : Int)) := Lib.cell?_alloc_some _ hvc
                          by_cases hA : 65536 ≤ n3
                          · have HR3 : Hid (R.1 = E) := hwx (.inl (by rw [← hn3]; exact hA))
                            have a1 : (65536 : Int) ≤ (n3 : Int) := by omega
                            have a1d : decide ((65536 : Int) ≤ (n3 : Int)) = true := decide_eq_true a1
                            clear hA hwx hw0 hEE hstep hxd hwide hA3 hA4 hO7 hZ7 hten hx hTm hO6 hZ6 hK6 hn3 hxl
                            go_wp2_with (go_at_call 38; go_loud ((refine (HWI.out _).mono ?_; rintro e5 wq4 ⟨rfl, hb5⟩; have HBW := Lib.hid (HBB.out.trans (((HBO.out.alloc HBO.out.size _).trans (hb5.mono (HBO.out.alloc HBO.out.size _).size)).mono HBB.out.size)); clear hb5)))
                            try rw [Exit.noGoto_ret]
                            go_ret2
                            have hoe : OE = R.1 := by
                              have := HOE.out
                              rw [if_pos (by rw [HR3.out]; first | decide | exact hE0)] at this
                              exact this
                            exact ⟨HB1.out.trans (HBW.out.mono HB1.out.size), .inl ⟨by rw [hoe, HR3.out]; first | decide | exact hE0, by rw [hoe, HR3.out]; first | rfl | done⟩⟩
                          · have a1 : ¬ (65536 : Int) ≤ (n3 : Int) := by omega
                            have a1d : decide ((65536 : Int) ≤ (n3 : Int)) = false := decide_eq_false a1
                            by_cases hX : 64 ≤ xl
                            · have HR3 : Hid (R.1 = E) := hwx (.inr (by rw [← hxl]; exact hX))
                              have a2 : (64 : Int) ≤ (xl : Int) := by omega
                              have a2d : decide ((64 : Int) ≤ (xl : Int)) = true := decide_eq_true a2
                              clear hA hX hwx hw0 hEE hstep hxd hwide hA3 hA4 hO7 hZ7 hten hx hTm hO6 hZ6 hK6 hn3 hxl
                              go_wp2_with (go_at_call 38; go_loud ((refine (HWI.out _).mono ?_; rintro e5 wq4 ⟨rfl, hb5⟩; have HBW := Lib.hid (HBB.out.trans (((HBO.out.alloc HBO.out.size _).trans (hb5.mono (HBO.out.alloc HBO.out.size _).size)).mono HBB.out.size)); clear hb5)))
                              try rw [Exit.noGoto_ret]
                              go_ret2
                              have hoe : OE = R.1 := by
                                have := HOE.out
                                rw [if_pos (by rw [HR3.out]; first | decide | exact hE0)] at this
                                exact this
                              exact ⟨HB1.out.trans (HBW.out.mono HB1.out.size), .inl ⟨by rw [hoe, HR3.out]; first | decide | exact hE0, by rw [hoe, HR3.out]; first | rfl | done⟩⟩
                            · have a2 : ¬ (64 : Int) ≤ (xl : Int) := by omega
                              have a2d : decide ((64 : Int) ≤ (xl : Int)) = false := decide_eq_false a2
                              have hslim := Fs.slim_of (c := c) (x := xs) (z := wrap64 (xo + x1)) hZ7 (by rw [← hn3]; exact hA) (by rw [← hxl]; exact hX)
                              rw [← hA4] at hslim
                              have HZ9 := Lib.hid hslim
                              have HFB : Hid (∀ z, (.slice a3 n3 c3 : Value).ownBlock = some z → z < wr.heap.size) := fun z hz => (own_kind hO7 z hz).2.1
                              have hbl : Below wr.heap.size wr (wr.alloc (.cells #[.string Tm, .int .i64 xo] 26)) := (Below.refl _ _).alloc (Nat.le_refl _) _
                              have HBX : Hid (RowT 26 (wr.alloc (.cells #[.string Tm, .int .i64 xo] 26)) wr.heap.size #[.string Tm, .int .i64 xo]) := Go.Deep.blk_alloc_new _ _
                              have HK8 : Hid (KeptT [3] wo.heap.size wq3 (wr.alloc (.cells #[.string Tm, .int .i64 xo] 26))) := hK6.out.trans (KeptT.of_below hbl)
                              have HO8 : Hid ((wr.alloc (.cells #[.string Tm, .int .i64 xo] 26)).ownsRow wo.heap.size 26 2 (.slice a3 n3 c3) n3 (entV A3)) := by
                                have h1 : OwnE (wr.alloc (.cells #[.string Tm, .int .i64 xo] 26)) wo.heap.size (.slice a3 n3 c3) A3 := World.ownsRow.alloc hO7 _
                                unfold OwnE at h1
                                rw [← hn3] at h1
                                exact h1
                              have HBO8 : Hid (Below wo.heap.size wo (wr.alloc (.cells #[.string Tm, .int .i64 xo] 26))) := HBO.out.alloc HBO.out.size _
                              have HN3 := Lib.hid hn3
                              have HA4 := Lib.hid hA4
                              have hn3b : n3 ≤ 65536 := by omega
                              have hT64 : Tm.size ≤ 64 := by omega
                              have HCT : Hid (bs [c] ++ Tm = bs (c :: xs)) := by
                                show _ = _
                                rw [hTm, bs_append]
                                rfl
                              have hC1s : (bs [c]).size = 1 := bs_size [c]
                              have hz5 : IntKind.i64.wrap (xo + x1) = wrap64 (xo + x1) := wrapEq _
                              have hbt := byte_text c
                              have hbtD := byte_textD c
                              have hu8 : IntKind.u8.wrap ((c.toNat : Nat) : Int) = ((c.toNat : Nat) : Int) := by rw [IntKind.wrap_u8]; have := c.toNat_lt; omega
                              have hbx := HBX.out
                              clear hwx hw0 hEE hstep hxd hwide hA3 hA4 hO7 hZ7 hten hx hTm hO6 hZ6 hK6 hn3 hxl hbl hslim HWI hvc hvc2 HK7 hA hX
                              go_wp2_with fail
                              clear v0 v1 z0 y0 y1 y2
                              obtain ⟨C1, hC1⟩ : ∃ C1, C1 = bs [c] := ⟨_, rfl⟩
                              rw [← hC1] at HCT hC1s hbt hbtD
                              clear hC1 hz5
                              obtain ⟨W4, hW4⟩ : ∃ W4, W4 = wr.alloc (.cells #[.string Tm, .int .i64 xo] 26) := ⟨_, rfl⟩
                              rw [← hW4] at HBX HK8 HO8 HBO8 hbx ⊢
                              clear hW4
                              generalize wr.heap.size = xb at *
                              have hadd : ¬ 9223372036854775807 < C1.size + Tm.size := by omega
                              have hxb : xb < W4.heap.size := hbx.lt
                              have HSA : Hid (∀ W, KeptT [3] wo.heap.size W4 W → W.heap[xb]? = W4.heap[xb]? → W.cell? ⟨gw, 0, none⟩ = some (.int .i64 (c.toNat : Nat)) ∧ W.cell? ⟨gw, 1, none⟩ = some (.int .i64 x1) ∧ W.cell? ⟨xb, 0, none⟩ = some (.string Tm) ∧ W.cell? ⟨xb, 1, none⟩ = some (.int .i64 xo)) := fun W h1 h2 => by
                                have r := RowT.keep HBX.out h2
                                exact ⟨int_cell HWC.out.2 (HK8.out.trans h1) HWC.out.1.1, int_cell HWC.out.2 (HK8.out.trans h1) HWC.out.1.2.1, r.cell 0, r.cell 1⟩
                              have HSW : Hid (∀ W, Below W4.heap.size W4 W → W.cell? ⟨gw, 0, none⟩ = some (.int .i64 (c.toNat : Nat)) ∧ W.cell? ⟨gw, 1, none⟩ = some (.int .i64 x1) ∧ W.cell? ⟨xb, 0, none⟩ = some (.string Tm) ∧ W.cell? ⟨xb, 1, none⟩ = some (.int .i64 xo)) := fun W h => HSA.out W (KeptT.of_below h) (h.block _ hxb)
                              have HPU : Hid (∀ w5 g cap, w5.ownsRow wo.heap.size 26 2 (.slice (some ⟨g, 0, none⟩) (n3 + 1) cap) (n3 + 1) (entV A3 ++ [.string (C1 ++ Tm), .int .i64 (IntKind.i64.wrap (xo + x1))]) → Grew W4 w5 (.slice a3 n3 c3) (.slice (some ⟨g, 0, none⟩) (n3 + 1) cap) → OwnE w5 wo.heap.size (.slice (some ⟨g, 0, none⟩) (n3 + 1) cap) (Fs.upTo T fin wsk ++ Fs.upW c x1 (t.take (j + 1))) ∧ KeptT [3] wo.heap.size wq3 w5 ∧ (w5.cell? ⟨gw, 0, none⟩ = some (.int .i64 (c.toNat : Nat)) ∧ w5.cell? ⟨gw, 1, none⟩ = some (.int .i64 x1) ∧ w5.cell? ⟨xb, 0, none⟩ = some (.string Tm) ∧ w5.cell? ⟨xb, 1, none⟩ = some (.int .i64 xo))) := fun w5 g cap h1 h2 => by
                                have kt : KeptT [3] wo.heap.size W4 w5 := h2.keptT HO8.out (by decide)
                                refine ⟨?_, HK8.out.trans kt, HSA.out w5 kt (h2.far hxb fun q => by have := HFB.out _ q; omega)⟩
                                rw [HA4.out]
                                rw [wrapEq, HCT.out, HN3.out] at h1
                                rw [HN3.out]
                                exact OwnE.push (x := (c :: xs, wrap64 (xo + x1))) h1
                              have hbtd : (convert 79 9 (.slice (some ⟨W4.heap.size, 0, none⟩) 1 1)).run Try.prog ((W4.alloc (.cells #[.int .u8 (c.toNat : Nat)] 5)).drew) = .ok (.string C1) ((W4.alloc (.cells #[.int .u8 (c.toNat : Nat)] 5)).drew) := hbtD W4
                              have hbt4 := hbt W4
                              clear hbt hbtD
                              obtain ⟨iE, hiE, hzE0, hzE1, hzE2⟩ := info_parts Try.infoE
                              have hszo := HBO8.out.size
                              have hS0 := HSW.out W4 (Below.refl _ _)
                              clear a1 a1d a2 a2d hE0 hd6 hd6n hd6m hd7 hd7n hw1 hw2 hxs hC1s hT64 h6 h7 ht0 ht1 c0 c1 hq2 hbx
                              have hq1 := HSW.out ((W4.alloc (.cells #[.int .u8 (c.toNat : Nat)] 5)).drew) ((Below.refl _ _).alloc (Nat.le_refl _) _).drew
                              have hq2 := HSW.out (((W4.alloc (.cells #[.int .u8 (c.toNat : Nat)] 5)).alloc (.cells #[.string (C1 ++ Tm), .int .i64 (IntKind.i64.wrap (xo + x1))] 26)).drew) (((Below.refl _ _).alloc (Nat.le_refl _) _).alloc (by simp) _).drew
                              refine wp_region_held_drew (S := fun W => W.cell? ⟨gw, 0, none⟩ = some (.int .i64 (c.toNat : Nat)) ∧ W.cell? ⟨gw, 1, none⟩ = some (.int .i64 x1) ∧ W.cell? ⟨xb, 0, none⟩ = some (.string Tm) ∧ W.cell? ⟨xb, 1, none⟩ = some (.int .i64 xo)) (by kernel_rfl) hS0 (fun hHeld => ?_)
                              refine wpAnyH_take (i := 0) (fuel := 19) (oi := ⟨_, _, _, _, _, _⟩) (v := ?_) rfl (by kernel_rfl) (by kernel_rfl) (by kernel_rfl) (fun _ _ _ h => h) (Or.inl ⟨by rfl, ?_⟩) (by assumption) ?_
                              rotate_left
                              · intro w _
                                first | (go_simp; done) | (go_simp; with_reducible rfl)
                              simp only [Act.put, List.setIfInBounds_toArray, List.set_cons_zero, List.set_cons_succ]
                              refine wpAnyH_take (i := 1) (fuel := 18) (oi := ⟨_, _, _, _, _, _⟩) (v := ?_) rfl (by kernel_rfl) (by kernel_rfl) (by kernel_rfl) (fun _ _ _ h => h) (Or.inl ⟨by rfl, ?_⟩) (by assumption) ?_
                              rotate_left
                              · intro w _
                                first | (go_simp; done) | (go_simp; with_reducible rfl)
                              simp only [Act.put, List.setIfInBounds_toArray, List.set_cons_zero, List.set_cons_succ]
                              refine wpAnyH_take (i := 2) (fuel := 17) (oi := ⟨_, _, _, _, _, _⟩) (v := ?_) rfl (by kernel_rfl) (by kernel_rfl) (by kernel_rfl) (fun _ _ _ h => h) (Or.inl ⟨by rfl, ?_⟩) (by assumption) ?_
                              rotate_left
                              · intro w _
                                first | (go_simp; done) | (go_simp; with_reducible rfl)
                              simp only [Act.put, List.setIfInBounds_toArray, List.set_cons_zero, List.set_cons_succ]
                              refine wpAnyH_take (i := 3) (fuel := 16) (oi := ⟨_, _, _, _, _, _⟩) (v := ?_) rfl (by kernel_rfl) (by kernel_rfl) (by kernel_rfl) (fun _ _ _ h => h) (Or.inl ⟨by rfl, ?_⟩) (by assumption) ?_
                              rotate_left
                              · intro w hSw
                                obtain ⟨h1, _⟩ := hSw
                                first | (go_simp; done) | (go_simp; with_reducible rfl)
                              simp only [Act.put, List.setIfInBounds_toArray, List.set_cons_zero, List.set_cons_succ]
                              refine wpAnyH_take (i := 4) (fuel := 15) (oi := ⟨_, _, _, _, _, _⟩) (v := ?_) rfl (by kernel_rfl) (by kernel_rfl) (by kernel_rfl) (fun _ _ _ h => h) (Or.inl ⟨by rfl, ?_⟩) (by assumption) ?_
                              rotate_left
                              · intro w _
                                first | (go_simp; done) | (go_simp; with_reducible rfl)
                              simp only [Act.put, List.setIfInBounds_toArray, List.set_cons_zero, List.set_cons_succ]
                              refine wpAnyH_take (i := 7) (fuel := 14) (oi := ⟨_, _, _, _, _, _⟩) (v := ?_) rfl (by kernel_rfl) (by kernel_rfl) (by kernel_rfl) (fun _ _ _ h => h) (Or.inl ⟨by rfl, ?_⟩) (by assumption) ?_
                              rotate_left
                              · intro w _
                                first | (go_simp; done) | (go_simp; with_reducible rfl)
                              simp only [Act.put, List.setIfInBounds_toArray, List.set_cons_zero, List.set_cons_succ]
                              refine wpAnyH_take (i := 8) (fuel := 13) (oi := ⟨_, _, _, _, _, _⟩) (v := ?_) rfl (by kernel_rfl) (by kernel_rfl) (by kernel_rfl) (fun _ _ _ h => h) (Or.inl ⟨by rfl, ?_⟩) (by assumption) ?_
                              rotate_left
                              · intro w hSw
                                obtain ⟨_, _, h3, _⟩ := hSw
                                first | (go_simp; done) | (go_simp; with_reducible rfl)
                              simp only [Act.put, List.setIfInBounds_toArray, List.set_cons_zero, List.set_cons_succ]
                              refine wpAnyH_take (i := 10) (fuel := 12) (oi := ⟨_, _, _, _, _, _⟩) (v := ?_) rfl (by kernel_rfl) (by kernel_rfl) (by kernel_rfl) (fun _ _ _ h => h) (Or.inl ⟨by rfl, ?_⟩) (by assumption) ?_
                              rotate_left
                              · intro w _
                                first | (go_simp; done) | (go_simp; with_reducible rfl)
                              simp only [Act.put, List.setIfInBounds_toArray, List.set_cons_zero, List.set_cons_succ]
                              refine wpAnyH_take (i := 11) (fuel := 11) (oi := ⟨_, _, _, _, _, _⟩) (v := ?_) rfl (by kernel_rfl) (by kernel_rfl) (by kernel_rfl) (fun _ _ _ h => h) (Or.inl ⟨by rfl, ?_⟩) (by assumption) ?_
                              rotate_left
                              · intro w hSw
                                obtain ⟨_, _, _, h4⟩ := hSw
                                first | (go_simp; done) | (go_simp; with_reducible rfl)
                              simp only [Act.put, List.setIfInBounds_toArray, List.set_cons_zero, List.set_cons_succ]
                              refine wpAnyH_take (i := 12) (fuel := 10) (oi := ⟨_, _, _, _, _, _⟩) (v := ?_) rfl (by kernel_rfl) (by kernel_rfl) (by kernel_rfl) (fun _ _ _ h => h) (Or.inl ⟨by rfl, ?_⟩) (by assumption) ?_
                              rotate_left
                              · intro w _
                                first | (go_simp; done) | (go_simp; with_reducible rfl)
                              simp only [Act.put, List.setIfInBounds_toArray, List.set_cons_zero, List.set_cons_succ]
                              refine wpAnyH_take (i := 13) (fuel := 9) (oi := ⟨_, _, _, _, _, _⟩) (v := ?_) rfl (by kernel_rfl) (by kernel_rfl) (by kernel_rfl) (fun _ _ _ h => h) (Or.inl ⟨by rfl, ?_⟩) (by assumption) ?_
                              rotate_left
                              · intro w _
                                first | (go_simp; done) | (go_simp; with_reducible rfl)
                              simp only [Act.put, List.setIfInBounds_toArray, List.set_cons_zero, List.set_cons_succ]
                              refine wpAnyH_take (i := 14) (fuel := 8) (oi := ⟨_, _, _, _, _, _⟩) (v := ?_) rfl (by kernel_rfl) (by kernel_rfl) (by kernel_rfl) (fun _ _ _ h => h) (Or.inl ⟨by rfl, ?_⟩) (by assumption) ?_
                              rotate_left
                              · intro w hSw
                                obtain ⟨_, h2, _⟩ := hSw
                                first | (go_simp; done) | (go_simp; with_reducible rfl)
                              simp only [Act.put, List.setIfInBounds_toArray, List.set_cons_zero, List.set_cons_succ]
                              refine wpAnyH_take (i := 15) (fuel := 7) (oi := ⟨_, _, _, _, _, _⟩) (v := ?_) rfl (by kernel_rfl) (by kernel_rfl) (by kernel_rfl) (fun _ _ _ h => h) (Or.inl ⟨by rfl, ?_⟩) (by assumption) ?_
                              rotate_left
                              · intro w _
                                first | (go_simp; done) | (go_simp; with_reducible rfl)
                              simp only [Act.put, List.setIfInBounds_toArray, List.set_cons_zero, List.set_cons_succ]
                              refine wpAnyH_ready (rs := [5]) (by kernel_rfl) (by simp) ?_
                              refine AllReadyH.cons (o := ⟨_, _, _, _, _, _⟩) rfl (fun K hK => ?_) AllReadyH.nil
                              go_simp
                              refine hK.out _ _ hq1 (fun hHeld => ?_)
                              clear hK K
                              refine wpAnyH_ready (rs := [6]) (by kernel_rfl) (by simp) ?_
                              refine AllReadyH.cons (o := ⟨_, _, _, _, _, _⟩) rfl (fun K hK => ?_) AllReadyH.nil
                              go_simp
                              refine hK.out _ _ hq1 (fun hHeld => ?_)
                              clear hK K
                              refine wpAnyH_ready (rs := [9]) (by kernel_rfl) (by simp) ?_
                              refine AllReadyH.cons (o := ⟨_, _, _, _, _, _⟩) rfl (fun K hK => ?_) AllReadyH.nil
                              go_simp
                              refine hK.out _ _ hq1 (fun hHeld => ?_)
                              clear hK K
                              refine wpAnyH_ready (rs := [16]) (by kernel_rfl) (by simp) ?_
                              refine AllReadyH.cons (o := ⟨_, _, _, _, _, _⟩) rfl (fun K hK => ?_) AllReadyH.nil
                              go_simp
                              refine hK.out _ _ hq1 (fun hHeld => ?_)
                              clear hK K
                              refine wpAnyH_ready (rs := [17]) (by kernel_rfl) (by simp) ?_
                              refine AllReadyH.cons (o := ⟨_, _, _, _, _, _⟩) rfl (fun K hK => ?_) AllReadyH.nil
                              go_simp
                              refine hK.out _ _ hq2 (fun hHeld => ?_)
                              clear hK K
                              refine wpAnyH_ready (rs := [18]) (by kernel_rfl) (by simp) ?_
                              refine AllReadyH.cons (o := ⟨_, _, _, _, _, _⟩) rfl (fun K hK => ?_) AllReadyH.nil
                              refine step_pushR (w := W4) (by rfl) _ _ 22 26 (by rfl) iE _ 2 24 Try.underlying22 hiE hzE0 hzE1 hzE2 rfl (by decide) wo.heap.size hszo (.slice a3 n3 c3) n3 (entV A3) (by rfl) HO8.out (by exact (((Below.refl _ _).alloc (Nat.le_refl _) _).alloc (by simp) _).drew) [.string (C1 ++ Tm), .int .i64 (IntKind.i64.wrap (xo + x1))] rfl (one_of rfl) ⟨W4.heap.size + 1, 0, none⟩ (by exact new_cells2 W4 (.cells #[.int .u8 (c.toNat : Nat)] 5) [.string (C1 ++ Tm), .int .i64 (IntKind.i64.wrap (xo + x1))] 26) (by rfl) (by omega) (by omega) ?_
                              intro g5 cap5 w5 hown5 hgr5
                              obtain ⟨q7, q8, q9⟩ := HPU.out w5 g5 cap5 hown5 hgr5
                              have HO9 := Lib.hid q7
                              have HK9 := Lib.hid q8
                              clear hown5 hgr5 q7 q8
                              refine hK.out _ _ q9 (fun hHeld => ?_)
                              clear hK K
                              simp only [Act.put, List.setIfInBounds_toArray, List.set_cons_zero, List.set_cons_succ]
                              refine wpAnyH_ready (rs := [19]) (by kernel_rfl) (by simp) ?_
                              refine AllReadyH.cons (o := ⟨_, _, _, _, _, _⟩) rfl (fun K hK => ?_) AllReadyH.nil
                              go_simp
                              refine hK.out _ _ q9 (fun hHeld => ?_)
                              clear hK K
                              refine wpAnyH_done (by kernel_rfl) ?_ _
                              all_goals go_wp2_with fail
                              all_goals go_roundg (nt - (j + 1))
                              all_goals first
                                | omega
                                | exact ⟨j + 1, _, by omega, rfl, rfl, by go_num, HO9, HZ9, HK9⟩
                        · obtain rfl : j = nt := by omega
                          have j1 : ¬ (j : Int) < (j : Int) := by omega
                          have e0 : Fs.upTo T fin wsk ++ Fs.upW c x1 (t.take j) = Fs.upTo T fin (wsk ++ [(c, x1, tt)]) := by
                            rw [Fs.upTo_snoc]
                            dsimp only
                            rw [HGT.out, List.take_of_length_le (by rw [← HNTT.out]; exact Nat.le_refl _)]
                          have hO7 := hO6.out
                          have hZ7 := hZ6.out
                          rw [e0] at hO7 hZ7
                          have HO7 := Lib.hid hO7
                          have HZ7 := Lib.hid hZ7
                          clear hO6 hZ6 hK6 hO7 hZ7 e0 z1
                          go_wp2_with fail
                          go_roundg (q - (k + 1))
                          case rel => exact ⟨k + 1, s3, S4, wsk ++ [(c, x1, tt)], _, by omega, rfl, rfl, rfl, by go_num, HS4, HE5, HPL, HO7, HZ7, HK7⟩
                          case measure => omega
                · obtain rfl : k = q := by omega
                  have k1 : ¬ (k : Int) < (k : Int) := by omega
                  have hE4 := hE3.out
                  rw [Nat.sub_self] at hE4
                  have hE5 : (0, wsk, s2) = RW := hE4
                  have hslim : ¬ Fs.Wide (Fs.upTo T fin wsk) := by
                    have := hZ3.out
                    unfold Fs.Wide
                    omega
                  have HRO4 : Hid (Fs.rdNs (cnt - (i + 1)) s2 (N ++ [(fin, wsk)]) (T ++ [Fs.upTo T fin wsk]) = R) := by
                    have := HRO.out
                    rw [← hE5] at this
                    exact this rfl hslim
                  have HLN4 : Hid (i + 1 + s2.length ≤ 4194304) := by
                    have h1 := HLT.out
                    rw [← hE5] at h1
                    have h2 := h1 rfl
                    have h3 := hLn.out
                    dsimp only at h2
                    show _ ≤ _
                    omega
                  have HNT4 : Hid ((N ++ [(fin, wsk)]).length = i + 1 ∧ (T ++ [Fs.upTo T fin wsk]).length = i + 1) := by
                    show _ ∧ _
                    rw [List.length_append, List.length_append, hNT.out.1, hNT.out.2]
                    exact ⟨rfl, rfl⟩
                  have HWD4 : Hid (∀ t ∈ T ++ [Fs.upTo T fin wsk], ¬ Fs.Wide t) := fun t ht => by
                    rcases List.mem_append.1 ht with q | q
                    · exact hWd.out t q
                    · rw [List.mem_singleton.1 q]; exact hslim
                  obtain ⟨al, cl, rfl⟩ : ∃ a c, lk = .slice a (Fs.upTo T fin wsk).length c := hO3.out.form
                  have HLS : Hid (LsO wr w1.heap.size (.slice an i cn) Ls T) := HOO.out.below HBO.out
                  have hBW : Below w1.heap.size w1 wr := HBB.out.trans (HBO.out.mono HBB.out.size)
                  have hsz1 := hBW.size
                  have HOW : Hid (OwnE wr w1.heap.size (.slice al (Fs.upTo T fin wsk).length cl) (Fs.upTo T fin wsk)) := ownsRow_base hO3.out HBB.out.size
                  have HRWW : Hid (wr.ownsRow w1.heap.size 22 1 (.slice an i cn) i Ls) := by
                    have := HLS.out.row
                    rw [hNT.out.2] at this
                    exact this
                  have HPU : Hid (∀ w5 g cap, w5.ownsRow w1.heap.size 22 1 (.slice (some ⟨g, 0, none⟩) (i + 1) cap) (i + 1) (Ls ++ [.slice al (Fs.upTo T fin wsk).length cl]) → Grew wr w5 (.slice an i cn) (.slice (some ⟨g, 0, none⟩) (i + 1) cap) → LsO w5 w1.heap.size (.slice (some ⟨g, 0, none⟩) (i + 1) cap) (Ls ++ [.slice al (Fs.upTo T fin wsk).length cl]) (T ++ [Fs.upTo T fin wsk]) ∧ Below w1.heap.size w1 w5) := fun w5 g cap h1 h2 => ⟨HLS.out.push hNT.out.2.symm HOW.out h1 h2, h2.below hBW hsz1 (fun z hz => (HRWW.out.lt z hz).1)⟩
                  obtain ⟨iL, hiL, hyL0, hyL1, hyL2⟩ := info_parts Try.infoL
                  generalize (Fs.upTo T fin wsk).length = nl at *
                  clear hE3 hE4 hE5 hslim hO3 hZ3 hK3 hL3 hBW
                  go_wp2_with (at_builtin; go_loud ((refine wpList_pushR rfl _ _ 65 22 rfl iL _ 1 24 Try.underlying65 hiL hyL0 hyL1 hyL2 rfl (by decide) w1.heap.size hsz1 (.slice an i cn) i Ls rfl HRWW.out [.slice al nl cl] rfl (one_of rfl) (by first | rfl | (rw [World.size_alloc]; rfl)) (by omega) (by omega) ?_; intro g5 cap5 w5 hown5 hgr5; have HP5 := Lib.hid (HPU.out w5 g5 cap5 hown5 hgr5); clear hown5 hgr5)))
                  go_roundg (cnt - (i + 1))
                  case rel => exact ⟨i + 1, s2, S3, N ++ [(fin, wsk)], T ++ [Fs.upTo T fin wsk], _, _, by omega, rfl, rfl, rfl, by go_num, hS3, HNT4, HWD4, HRO4, HLN4, HP5.out.1, HP5.out.2⟩
                  case measure => omega
      · have hR3 : R.1 = Fs.cE s' := by
          have := Fs.rdN_head (n := i) hc
          rw [← this]
          exact hRB (by rw [this]; exact hc)
        obtain ⟨E, hEE⟩ : ∃ E, E = Fs.cE s' := ⟨_, rfl⟩
        have HQ1 : Hid (Calls Try.prog 37 #[.string S, .int .i64 1] wr fun e w' => e = .returned (.tuple #[.slice none 0 0, .string ⟨#[]⟩, .int .i64 E]) ∧ Below wr.heap.size wr w') := by
          have h1 : (Fs.nums 1 s' []).1 = E := by rw [Fs.nums_one, if_pos hc, hEE]
          have := numbers_err s' 1 wr (by omega) (by omega) (by rw [h1, hEE]; exact hc)
          rw [h1, ← hS.out] at this
          exact this
        rw [← hEE] at hR3 hc
        have hE0 : ¬ E = 0 := hc
        have HR3 := Lib.hid hR3
        clear hE hE2 hRB hRW hRO hlt hO hB hNT hWd hS hLn hNj hc hR3 hEE
        go_wp2_with (go_at_call 37; go_loud ((refine HQ1.out.mono ?_; rintro e2 wq1 ⟨rfl, hb2⟩; have HBV := Lib.hid (HBB.out.trans (hb2.mono HBB.out.size)); clear hb2)))
        try rw [Exit.noGoto_ret]
        go_ret2
        have hoe : OE = R.1 := by
          have := HOE.out
          rw [if_pos (by rw [HR3.out]; first | decide | exact hE0)] at this
          exact this
        exact ⟨HB1.out.trans (HBV.out.mono HB1.out.size), .inl ⟨by rw [hoe, HR3.out]; first | decide | exact hE0, by rw [hoe, HR3.out]; first | rfl | done⟩⟩
    · obtain rfl : i = cnt := by omega
      have i1 : ¬ (i : Int) < (i : Int) := by omega
      have hE2 := hE.out
      rw [Nat.sub_self] at hE2
      have hE3 : (0, (N, T), s') = R := hE2
      subst hE3
      have hoe := HOE.out
      dsimp only at hoe ⊢
      rw [if_neg (fun q => q rfl)] at hoe
      have HBB := Lib.hid hB.out
      have HBW : Hid (Below w.heap.size w wr) := HB1.out.trans (hB.out.mono HB1.out.size)
      have hob := hO.out
      obtain ⟨an, cn, rfl⟩ : ∃ a c, nv = .slice a i c := by
        obtain ⟨a, c, e⟩ := hob.form
        rw [hNT.out.2] at e
        exact ⟨a, c, e⟩
      by_cases hs0 : s' = []
      · subst hs0
        rw [if_neg (fun q => q rfl)] at hoe
        have e0 : (S.toList == []) = true := by rw [hS.out, bs_list]; rfl
        obtain ⟨A, hA⟩ : ∃ A, A = Fs.addW L (T.getLast?.getD []) := ⟨_, rfl⟩
        rw [← hA] at hoe ⊢
        have HBU : Hid (∀ W' v', EnS W' v' A → Calls Try.prog 11 #[v'] W' fun e w'' => e = .returned (.tuple #[.string (bs (Fs.built A)), .int .i64 (Fs.right A)]) ∧ Below W'.heap.size W' w'') := fun W' v' hv => buildR_any W' v' A hv (by rw [hA]; exact addW_le _ _)
        have HA := Lib.hid hA
        have hcm : ((bs (Fs.built A)).toList == WS.toList) = (Fs.built A == s) := by rw [HWS.out, bs_list, bs_list]
        have hwl : wr.heap.size = wr.heap.size := rfl
        by_cases hT : T = []
        · subst hT
          have hi0 : i = 0 := by rw [← hNT.out.2]; rfl
          subst hi0
          have hA0 : A = [] := by rw [hA]; rfl
          have HEN : Hid (∀ W', EnS W' (.slice none 0 0) A) := fun W' => by rw [hA0]; exact ⟨none, 0, rfl, Nat.le_refl _, by omega, fun q => absurd q (Nat.not_lt_zero _)⟩
          clear hE hE2 hA hA0 hNT hWd hLn hO hob hB hS hwl
          go_wp2_with fail
          all_goals
            obtain ⟨zz, hzz⟩ : ∃ zz : Nat, zz = 0 := ⟨_, rfl⟩
            clear hzz
            go_loopg [23] zz (fun gg s23 wx => ∃ j : Nat, gg = zz ∧ s23 = .int .i64 0 ∧ Hid (j = 0) ∧ Hid (Below w.heap.size w wx))
            case atStart => exact ⟨0, rfl, rfl, rfl, HBW⟩
            case round =>
              obtain ⟨j, rfl, rfl, _, hBZ⟩ := hrel
              have HBC : Hid (Calls Try.prog 11 #[.slice none 0 0] wr fun e w'' => e = .returned (.tuple #[.string (bs (Fs.built A)), .int .i64 (Fs.right A)]) ∧ Below wr.heap.size wr w'') := HBU.out wr _ (HEN.out wr)
              by_cases hr0 : Fs.right A = 0
              · have hbl : Fs.built A = Fs.bytes A := by unfold Fs.built; exact if_pos hr0
                rw [hr0] at HBC hoe
                by_cases hbs : Fs.bytes A = s
                · rw [if_pos ⟨rfl, hbs⟩] at hoe
                  subst hoe
                  have hcm2 : ((bs (Fs.built A)).toList == WS.toList) = true := by rw [hcm, hbl, hbs]; simp
                  clear hcm hbl hbs hr0
                  generalize bs (Fs.built A) = B1 at *
                  go_wp2_with (go_at_call 11; go_loud ((refine HBC.out.mono ?_; rintro e7 wq7 ⟨rfl, hb7⟩; have HB7 := Lib.hid hb7; clear hb7)))
                  try rw [Exit.noGoto_ret]
                  go_ret2
                  exact ⟨hBZ.out.trans (HB7.out.mono hBZ.out.size), .inr ⟨by first | trivial | rfl, _, rfl, (by have h9 := EnS.below (HEN.out wr) HB7.out (Nat.le_refl _); first | exact h9 | (rw [HA.out] at h9; exact h9))⟩⟩
                · rw [if_neg (fun q => hbs q.2)] at hoe
                  subst hoe
                  have hcm2 : ((bs (Fs.built A)).toList == WS.toList) = false := by rw [hcm, hbl, beq_eq_false_iff_ne]; exact hbs
                  clear hcm hbl hbs hr0
                  generalize bs (Fs.built A) = B1 at *
                  go_wp2_with (go_at_call 11; go_loud ((refine HBC.out.mono ?_; rintro e7 wq7 ⟨rfl, hb7⟩; have HB7 := Lib.hid hb7; clear hb7)))
                  try rw [Exit.noGoto_ret]
                  go_ret2
                  exact ⟨hBZ.out.trans (HB7.out.mono hBZ.out.size), .inl ⟨by decide, rfl⟩⟩
              · rw [if_neg (fun q => hr0 q.1)] at hoe
                subst hoe
                clear hcm
                generalize bs (Fs.built A) = B1 at *
                generalize Fs.right A = E1 at *
                go_wp2_with (go_at_call 11; go_loud ((refine HBC.out.mono ?_; rintro e7 wq7 ⟨rfl, hb7⟩; have HB7 := Lib.hid hb7; clear hb7)))
                all_goals try rw [Exit.noGoto_ret]
                all_goals go_ret2
                all_goals exact ⟨hBZ.out.trans (HB7.out.mono hBZ.out.size), .inl ⟨by decide, rfl⟩⟩
        · obtain ⟨t, ht⟩ : ∃ t, t = T.getLast?.getD [] := ⟨_, rfl⟩
          have hTp := List.length_pos_iff.2 hT
          have hti : T.length - 1 < T.length := by omega
          obtain ⟨g, cap, at_, ct, e5, hgl, hnc, hto⟩ := hob.at hti
          have htT : T[T.length - 1] = t := by
            rw [ht, List.getLast?_eq_getElem?, List.getElem?_eq_getElem hti]
            rfl
          rw [htT] at hnc hto
          rw [hNT.out.2] at e5 hnc hTp
          injection e5 with e6 _ e7
          subst e6 e7
          have ip : (0 : Int) < (i : Int) := by omega
          have iw : IntKind.i64.wrap ((i : Int) - 1) = ((i - 1 : Nat) : Int) := by rw [IntWalk.i64_in _ (by omega)]; omega
          have iw2 : ((i - 1 : Nat) : Int) < (i : Int) := by omega
          have iw3 : (0 : Int) ≤ ((i - 1 : Nat) : Int) := by omega
          rw [← ht] at hA
          obtain ⟨nt, hnt⟩ : ∃ nt, nt = t.length := ⟨_, rfl⟩
          rw [← hnt] at hnc hto
          have HNT := Lib.hid hnt
          have hntb : nt ≤ 65536 := by
            have := hWd.out t (by rw [← htT]; exact List.getElem_mem hti)
            unfold Fs.Wide at this
            omega
          have HTO : Hid (OwnE wr w1.heap.size (.slice at_ nt ct) (Fs.addW L (t.take 0) ++ t.drop 0)) := hto
          have HAE := Lib.hid hA
          clear hE hE2 hA hNT hWd hLn hO hob hB hS hwl ht htT hto hnt hTp hgl hti hT
          go_wp2_with fail
          all_goals
            go_loopg [23] nt (fun gg s23 wx => ∃ j : Nat, j ≤ nt ∧ gg = nt - j ∧ s23 = .int .i64 (j : Int) ∧ Hid (OwnE wx w1.heap.size (.slice at_ nt ct) (Fs.addW L (t.take j) ++ t.drop j)) ∧ Hid (Below w1.heap.size w1 wx))
            case atStart => exact ⟨0, Nat.zero_le _, rfl, rfl, HTO, HBB⟩
            case round =>
              clear HTO HBB hnc
              obtain ⟨j, hj, rfl, rfl, hO6, hB6⟩ := hrel
              obtain ⟨y0, y1⟩ := HH.out wr hB6.out
              by_cases hjn : j < nt
              · have j1 : (j : Int) < (nt : Int) := by omega
                have j0 : (0 : Int) ≤ (j : Int) := by omega
                have jl : j < t.length := by rw [← HNT.out]; exact hjn
                have hlen : (Fs.addW L (t.take j) ++ t.drop j).length = t.length := by
                  unfold Fs.addW
                  rw [List.length_append, List.length_map, List.length_take, List.length_drop]
                  omega
                obtain ⟨ge, ae, ce, e8, hq6, hq7, e9, hge, hq9, hten, hfz⟩ := hO6.out.opened
                obtain ⟨f1, f2⟩ := e9 (by omega)
                injection e8 with e10 e11 e12
                rw [f1] at e10
                subst e10
                have hst := hO6.out.stored (by rw [hlen]; exact HNT.out) j (by omega) (wrap64 (t[j].2 + L))
                rw [addW_at L t j jl, addW_step L t j jl] at hst
                have hcell := (hten j (by omega)).2
                rw [addW_at L t j jl, Nat.zero_add] at hcell
                have hfrz := hfz (by omega) (j * 2 + 1)
                obtain ⟨xo, hxo⟩ : ∃ xo, xo = t[j].2 := ⟨_, rfl⟩
                rw [← hxo] at hst hcell
                have HST := Lib.hid hst
                have HBS : Hid (Below w1.heap.size w1 (wr.setCell ⟨ge, j * 2 + 1, none⟩ (.int .i64 (wrap64 (xo + L))))) := hB6.out.setCell (by exact hge) _
                have y1d : wr.drew.cell? ⟨gh, 1, none⟩ = some (.int .i64 L) := y1
                have hcd : wr.drew.cell? ⟨ge, j * 2 + 1, none⟩ = some (.int .i64 xo) := hcell
                have hfd : wr.drew.frozen? ⟨ge, j * 2 + 1, none⟩ = false := hfrz
                clear hq6 hq7 hq9 hten hfz e9 f1 f2 e11 e12 hst hxo hO6 hB6 hlen y0 hge
                go_wp2_with fail
                go_still_tail 11, (by kernel_rfl)
                go_wp2_with fail
                go_roundg (nt - (j + 1))
                case rel => exact ⟨j + 1, by omega, rfl, by go_num, HST, (by show Below _ _ _; first | exact HBS.out.drew | exact HBS.out)⟩
                case measure => omega
              · obtain rfl : j = nt := by omega
                have j1 : ¬ (j : Int) < (j : Int) := by omega
                have HEN : Hid (EnS wr (.slice at_ j ct) A) := by
                  have h1 := hO6.out.ens
                  rw [List.take_of_length_le (by rw [← HNT.out]; exact Nat.le_refl _), List.drop_of_length_le (by rw [← HNT.out]; exact Nat.le_refl _), List.append_nil, ← HAE.out] at h1
                  exact h1
                have hBZ : Hid (Below w.heap.size w wr) := HB1.out.trans (hB6.out.mono HB1.out.size)
                clear hO6 hB6 y0 y1
                have HBC : Hid (Calls Try.prog 11 #[.slice at_ j ct] wr fun e w'' => e = .returned (.tuple #[.string (bs (Fs.built A)), .int .i64 (Fs.right A)]) ∧ Below wr.heap.size wr w'') := HBU.out wr _ HEN.out
                by_cases hr0 : Fs.right A = 0
                · have hbl : Fs.built A = Fs.bytes A := by unfold Fs.built; exact if_pos hr0
                  rw [hr0] at HBC hoe
                  by_cases hbs : Fs.bytes A = s
                  · rw [if_pos ⟨rfl, hbs⟩] at hoe
                    subst hoe
                    have hcm2 : ((bs (Fs.built A)).toList == WS.toList) = true := by rw [hcm, hbl, hbs]; simp
                    clear hcm hbl hbs hr0
                    generalize bs (Fs.built A) = B1 at *
                    go_wp2_with (go_at_call 11; go_loud ((refine HBC.out.mono ?_; rintro e7 wq7 ⟨rfl, hb7⟩; have HB7 := Lib.hid hb7; clear hb7)))
                    try rw [Exit.noGoto_ret]
                    go_ret2
                    exact ⟨hBZ.out.trans (HB7.out.mono hBZ.out.size), .inr ⟨by first | trivial | rfl, _, rfl, (by have h9 := EnS.below HEN.out HB7.out (Nat.le_refl _); first | exact h9 | (rw [HA.out] at h9; exact h9))⟩⟩
                  · rw [if_neg (fun q => hbs q.2)] at hoe
                    subst hoe
                    have hcm2 : ((bs (Fs.built A)).toList == WS.toList) = false := by rw [hcm, hbl, beq_eq_false_iff_ne]; exact hbs
                    clear hcm hbl hbs hr0
                    generalize bs (Fs.built A) = B1 at *
                    go_wp2_with (go_at_call 11; go_loud ((refine HBC.out.mono ?_; rintro e7 wq7 ⟨rfl, hb7⟩; have HB7 := Lib.hid hb7; clear hb7)))
                    try rw [Exit.noGoto_ret]
                    go_ret2
                    exact ⟨hBZ.out.trans (HB7.out.mono hBZ.out.size), .inl ⟨by decide, rfl⟩⟩
                · rw [if_neg (fun q => hr0 q.1)] at hoe
                  subst hoe
                  clear hcm
                  generalize bs (Fs.built A) = B1 at *
                  generalize Fs.right A = E1 at *
                  go_wp2_with (go_at_call 11; go_loud ((refine HBC.out.mono ?_; rintro e7 wq7 ⟨rfl, hb7⟩; have HB7 := Lib.hid hb7; clear hb7)))
                  all_goals try rw [Exit.noGoto_ret]
                  all_goals go_ret2
                  all_goals exact ⟨hBZ.out.trans (HB7.out.mono hBZ.out.size), .inl ⟨by decide, rfl⟩⟩
      · rw [if_pos hs0] at hoe
        have e0 : (S.toList == []) = false := by
          rw [hS.out, bs_list, beq_eq_false_iff_ne]
          exact hs0
        clear hE hE2 hNT hWd hLn hO hob hB hS hs0
        subst hoe
        go_wp2_with fail
        try rw [Exit.noGoto_ret]
        go_ret2
        exact ⟨HBW.out, .inl ⟨by decide, rfl⟩⟩
end Go.Proofs.Ytdjiknakbldggaa

/-
  All bytes are opened or refused: the walk of FstOpens.
-/
namespace Go.Proofs.Ytdjiknakbldggaa
open Go.RowKit Go.Maps

theorem rdAll_bad (s : List UInt8) (h : (Fs.nums 2 s []).1 ≠ 0) : (Fs.rdAll s).1 = (Fs.nums 2 s []).1 := by
  rw [Fs.nums_two] at h ⊢
  unfold Fs.rdAll
  by_cases q : Fs.cE s = 0
  · by_cases q2 : Fs.cE (Fs.past s) = 0
    · simp [q, q2] at h
    · simp [q, q2]
  · simp [q]
theorem openR_any (s : List UInt8) (w : World) (hs : s.length ≤ 4194304) : Calls Try.prog 14 #[.string (bs s)] w (OpenRPost w (Fs.openE s) (Fs.allOf s)) := by
  by_cases h : (Fs.nums 2 s []).1 = 0
  · have he : Fs.cE s = 0 := by
      rw [Fs.nums_two] at h
      by_cases q : Fs.cE s = 0
      · exact q
      · rw [if_pos q] at h
        exact h
    have he2 : Fs.cE (Fs.past s) = 0 := by
      rw [Fs.nums_two, if_neg (fun q => q he)] at h
      by_cases q : Fs.cE (Fs.past s) = 0
      · exact q
      · rw [if_pos q] at h
        exact h
    have hrd : Fs.rdAll s = Fs.rdNs (Fs.cN s).toNat (Fs.past (Fs.past s)) [] [] := by
      unfold Fs.rdAll
      rw [if_neg (fun q => q he), if_neg (fun q => q he2)]
    have hq := openR_good s w hs he he2 (Fs.rdAll s) hrd (Fs.cN (Fs.past s)) rfl (Fs.openE s) rfl
    exact hq
  · refine (openR_bad s w hs h).mono ?_
    rintro e w' ⟨rfl, hb⟩
    have hE : Fs.openE s = (Fs.nums 2 s []).1 := by
      have hq := rdAll_bad s h
      unfold Fs.openE
      rw [if_pos (by rw [hq]; exact h), hq]
    rw [← hE] at h ⊢
    exact ⟨hb, .inl ⟨h, rfl⟩⟩
set_option maxRecDepth 100000 in
set_option maxHeartbeats 8000000 in
theorem opens_far (s : ByteArray) (w : World) (hs : 1500 < s.size) : Calls Try.prog 4 #[.string s] w fun e w' => e = .returned (.bool true) ∧ Below w.heap.size w w' := by
  have h1 : (1500 : Int) < (s.size : Int) := by omega
  have h2 : decide ((1500 : Int) < (s.size : Int)) = true := decide_eq_true h1
  clear hs
  go_enter Try.func4, Try.ntmps4
  go_wp2_with (go_at_call 8; first | (refine (awake_any w0).mono ?_; rintro e9 w9 ⟨rfl, hb9⟩; have HB9 := Lib.hid (HB0.out.trans (hb9.mono HB0.out.size)); clear hb9) | (refine (awake_any w).mono ?_; rintro e0 w0 ⟨rfl, hb0⟩; have HB0 := Lib.hid hb0; clear hb0))
  go_ret
  exact ⟨rfl, HB9.out⟩
set_option maxRecDepth 100000 in
set_option maxHeartbeats 8000000 in
theorem opens_near (s : List UInt8) (w : World) (hs : s.length ≤ 1500) : Calls Try.prog 4 #[.string (bs s)] w fun e w' => e = .returned (.bool true) ∧ Below w.heap.size w w' := by
  have HO : Hid (∀ w1, Calls Try.prog 13 #[.string (bs s)] w1 (OpenPost w1 s)) := fun w1 => open_any s w1 (by omega)
  have HR : Hid (∀ w1, Calls Try.prog 14 #[.string (bs s)] w1 (OpenRPost w1 (Fs.openE s) (Fs.allOf s))) := fun w1 => openR_any s w1 (by omega)
  unfold OpenPost at HO
  unfold OpenRPost at HR
  have h1 : ¬ (1500 : Int) < (s.length : Int) := by omega
  have h2 : decide ((1500 : Int) < (s.length : Int)) = false := decide_eq_false h1
  have hsz : (bs s).size = s.length := bs_size s
  have hbn := cN_bd (Fs.past s)
  have hallE : Fs.allOf s = Fs.addW (Fs.cN (Fs.past s)) ((Fs.rdAll s).2.1.2.getLast?.getD []) := rfl
  by_cases hE : Fs.openE s = 0
  · have HO2 : Hid (∀ w1, Calls Try.prog 13 #[.string (bs s)] w1 fun e w' => ∃ db, e = .returned (.tuple #[.pointer (some ⟨db, 0, none⟩), .int .i64 0]) ∧ Below w1.heap.size w1 w' ∧ DicS w' db (Fs.rdAll s).2.1.1 (Fs.cN (Fs.past s)) ((Fs.rdAll s).2.1.2.getLast?.getD []).length ∧ Fs.Rel (Fs.rdAll s).2.1.1 (Fs.rdAll s).2.1.2) := fun w1 => by
      refine (HO.out w1).mono ?_
      rintro e w' ⟨hb, ⟨h0, _⟩ | ⟨_, db, rfl, _, hd, hR⟩⟩
      · exact absurd hE h0
      · exact ⟨db, rfl, hb, hd, hR⟩
    have HR2 : Hid (∀ w1, Calls Try.prog 14 #[.string (bs s)] w1 fun e w' => ∃ a c, e = .returned (.tuple #[.slice a (Fs.allOf s).length c, .int .i64 0]) ∧ Below w1.heap.size w1 w' ∧ EnS w' (.slice a (Fs.allOf s).length c) (Fs.allOf s)) := fun w1 => by
      refine (HR.out w1).mono ?_
      rintro e w' ⟨hb, ⟨h0, _⟩ | ⟨_, v, rfl, hv⟩⟩
      · exact absurd hE h0
      · have hv' := hv
        obtain ⟨a, c, rfl, _⟩ := hv'
        exact ⟨a, c, rfl, hb, hv⟩
    have HAL : Hid (∀ w1 db, DicS w1 db (Fs.rdAll s).2.1.1 (Fs.cN (Fs.past s)) ((Fs.rdAll s).2.1.2.getLast?.getD []).length → Fs.Rel (Fs.rdAll s).2.1.1 (Fs.rdAll s).2.1.2 → Calls Try.prog 15 #[.pointer (some ⟨db, 0, none⟩)] w1 fun e w' => ∃ a c, e = .returned (.slice a (Fs.allOf s).length c) ∧ EnS w' (.slice a (Fs.allOf s).length c) (Fs.allOf s) ∧ Below w1.heap.size w1 w') := fun w1 db hd hRl => by
      have ht : ((Fs.rdAll s).2.1.2.getLast?.getD []).length ≤ 65536 := by
        cases hT : (Fs.rdAll s).2.1.2.getLast? with
        | none => exact Nat.zero_le _
        | some t => exact (hRl.size t (List.mem_of_getLast? hT)).1
      have := all_any w1 db _ _ _ _ hd hRl ht (by omega)
      unfold AllPostE at this
      rw [← hallE] at this
      refine this.mono ?_
      rintro e w' ⟨v, rfl, ho, hb⟩
      obtain ⟨a, c, rfl⟩ := ho.form
      exact ⟨a, c, rfl, ho.ens, hb⟩
    have HSM : Hid (∀ w' u v, EnS w' u (Fs.allOf s) → EnS w' v (Fs.allOf s) → Calls Try.prog 12 #[u, v] w' fun e w'' => e = .returned (.bool true) ∧ Below w'.heap.size w' w'') := fun w' u v hu hv => by
      have := sameS_any w' u v _ _ hu hv
      rw [decide_eq_true rfl] at this
      exact this
    obtain ⟨na, hna⟩ : ∃ na, na = (Fs.allOf s).length := ⟨_, rfl⟩
    rw [← hna] at HR2 HAL
    clear HO HR hallE hbn hE hna hs
    generalize bs s = S at *
    generalize s.length = sl at *
    go_enter Try.func4, Try.ntmps4
    go_wp2_with (first | (go_at_call 8; go_loud ((refine (awake_any w).mono ?_; rintro e0 w0 ⟨rfl, hb0⟩; have HB0 := Lib.hid hb0; clear hb0))) | (go_at_call 13; go_loud ((refine (HO2.out w0).mono ?_; rintro e1 w1 ⟨db, rfl, hb1, hd1, hr1⟩; have HB1 := Lib.hid (HB0.out.trans (hb1.mono HB0.out.size)); have HD1 := Lib.hid hd1; have HRL := Lib.hid hr1; clear hb1 hd1 hr1))) | (go_at_call 14; go_loud ((refine (HR2.out w1).mono ?_; rintro e2 w2 ⟨a2, c2, rfl, hb2, hv2⟩; have HB2 := Lib.hid (HB1.out.trans (hb2.mono HB1.out.size)); have HD2 := Lib.hid (HD1.out.below hb2); have HV2 := Lib.hid hv2; clear hb2 hv2))) | (go_at_call 15; go_loud ((refine (HAL.out w2 db HD2.out HRL.out).mono ?_; rintro e3 w3 ⟨a3, c3, rfl, hv3, hb3⟩; have HB3 := Lib.hid (HB2.out.trans (hb3.mono HB2.out.size)); have HV3 := Lib.hid hv3; have HV4 := Lib.hid (HV2.out.below hb3 (Nat.le_refl _)); clear hb3 hv3))) | (go_at_call 12; go_loud ((refine (HSM.out w3 _ _ HV3.out HV4.out).mono ?_; rintro e4 w4 ⟨rfl, hb4⟩; have HB4 := Lib.hid (HB3.out.trans (hb4.mono HB3.out.size)); clear hb4))))
    go_ret
    exact ⟨rfl, HB4.out⟩
  · have HO2 : Hid (∀ w1, Calls Try.prog 13 #[.string (bs s)] w1 fun e w' => e = .returned (.tuple #[.pointer none, .int .i64 (Fs.openE s)]) ∧ Below w1.heap.size w1 w') := fun w1 => by
      refine (HO.out w1).mono ?_
      rintro e w' ⟨hb, ⟨_, rfl⟩ | ⟨h0, _⟩⟩
      · exact ⟨rfl, hb⟩
      · exact absurd h0 hE
    have HR2 : Hid (∀ w1, Calls Try.prog 14 #[.string (bs s)] w1 fun e w' => e = .returned (.tuple #[.slice none 0 0, .int .i64 (Fs.openE s)]) ∧ Below w1.heap.size w1 w') := fun w1 => by
      refine (HR.out w1).mono ?_
      rintro e w' ⟨hb, ⟨_, rfl⟩ | ⟨h0, _⟩⟩
      · exact ⟨rfl, hb⟩
      · exact absurd h0 hE
    have HSM : Hid (∀ w', Calls Try.prog 12 #[.slice none 0 0, .slice none 0 0] w' fun e w'' => e = .returned (.bool true) ∧ Below w'.heap.size w' w'') := fun w' => by
      have hn : EnS w' (.slice none 0 0) [] := ⟨none, 0, rfl, Nat.le_refl _, by omega, fun q => absurd q (Nat.not_lt_zero _)⟩
      have := sameS_any w' _ _ _ _ hn hn
      rw [decide_eq_true rfl] at this
      exact this
    have hE0 : (Fs.openE s == 0) = false := by rw [beq_eq_false_iff_ne]; exact hE
    clear HO HR hallE hbn hs
    generalize Fs.openE s = E at *
    generalize bs s = S at *
    generalize s.length = sl at *
    have hE1 : ¬ E = 0 := hE
    have hE2 : (E != 0) = true := by simpa using hE1
    clear hE
    go_enter Try.func4, Try.ntmps4
    go_wp2_with (first | (go_at_call 8; go_loud ((refine (awake_any w).mono ?_; rintro e0 w0 ⟨rfl, hb0⟩; have HB0 := Lib.hid hb0; clear hb0))) | (go_at_call 13; go_loud ((refine (HO2.out w0).mono ?_; rintro e1 w1 ⟨rfl, hb1⟩; have HB1 := Lib.hid (HB0.out.trans (hb1.mono HB0.out.size)); clear hb1))) | (go_at_call 14; go_loud ((refine (HR2.out w1).mono ?_; rintro e2 w2 ⟨rfl, hb2⟩; have HB2 := Lib.hid (HB1.out.trans (hb2.mono HB1.out.size)); clear hb2))) | (go_at_call 15; go_loud ((refine (all_nil w2).mono ?_; rintro e3 w3 ⟨rfl, hb3⟩; have HB3 := Lib.hid (HB2.out.trans (hb3.mono HB2.out.size)); clear hb3))) | (go_at_call 12; go_loud ((refine (HSM.out w3).mono ?_; rintro e4 w4 ⟨rfl, hb4⟩; have HB4 := Lib.hid (HB3.out.trans (hb4.mono HB3.out.size)); clear hb4))))
    go_ret
    exact ⟨rfl, HB4.out⟩
theorem opens_walk (s : ByteArray) (w : World) : Calls Try.prog 4 #[.string s] w fun e w' => e = .returned (.bool true) ∧ Below w.heap.size w w' := by
  by_cases h : 1500 < s.size
  · exact opens_far s w h
  · have e : s = bs s.data.toList := (bs_of s).symm
    have hl : s.data.toList.length = s.size := Array.length_toList
    rw [e]
    exact opens_near _ w (by omega)
end Go.Proofs.Ytdjiknakbldggaa
