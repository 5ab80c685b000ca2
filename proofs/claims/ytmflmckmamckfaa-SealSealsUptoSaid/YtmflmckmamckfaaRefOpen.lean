/-
  What the document's own Open answers: the same plain function as the program's.
-/
import Derived.Test.YtmflmckmamckfaaRefSeal
namespace Go.Proofs.Ytmflmckmamckfaa
open Go.RowKit

theorem sealR_any (k : Nat) (hk : k ≤ 255) (s : ByteArray) (hsz : s.size ≤ 4294967296) (w : World) :
    Calls Try.prog 8 #[.int .i64 k, .string s] w fun e' w' => e' = .returned (.tuple #[.string ⟨(sealB k s.data.toList).toArray⟩, .int .i64 0]) ∧ Below w.heap.size w w' := by
  have h := sealR_c (UInt8.ofNat k) s hsz w
  rw [show (UInt8.ofNat k).toNat = k from by rw [UInt8.toNat_ofNat']; omega] at h
  exact h

set_option maxRecDepth 100000 in
set_option maxHeartbeats 1000000 in
theorem openR_no (n : Int) (s : ByteArray) (w : World) (hn : ¬ (0 ≤ n ∧ n ≤ 255)) :
    Calls Try.prog 13 #[.int .i64 n, .string s] w fun e' w' => e' = .returned (.tuple #[.string ⟨#[]⟩, .int .i64 1]) ∧ w = w' := by
  by_cases h : n < 0
  · clear hn
    go_enter Try.func13, Try.ntmps13
    go_wp2_with fail
    go_ret2
    exact ⟨rfl, rfl⟩
  · have h1 : 255 < n := by omega
    clear hn
    go_enter Try.func13, Try.ntmps13
    go_wp2_with fail
    go_ret2
    exact ⟨rfl, rfl⟩

/-- What is behind a head that is right. -/
theorem bhG_suffix : ∀ (h l t : List UInt8), bhG h l = (t, 0) → l = h ++ t := by
  intro h
  induction h with
  | nil =>
    intro l t hb
    obtain rfl : l = t := by simpa [bhG] using hb
    rfl
  | cons a h ih =>
    intro l t hb
    cases l with
    | nil => simp [bhG] at hb
    | cons c l =>
      simp only [bhG] at hb
      by_cases hc : c = a
      · rw [if_pos hc] at hb
        rw [ih l t hb, hc]
        rfl
      · rw [if_neg hc] at hb
        simp at hb
/-- Whether what is left is the checksum: whether it is sealed so. -/
theorem ends_iff (k : Nat) (r t : List UInt8) (z : Int) (h : Pl.rdBlock r = (t, z, 0)) (hl : (r.drop z.toNat).length = 4) :
    sealB k t = headB k ++ r ↔ r.drop z.toNat = tailB ((headB k ++ r).take ((headB k ++ r).length - 4)) := by
  have h1 := Iv.block_one r t z h
  have h2 : r = blockB t ++ r.drop z.toNat := by rw [h1, List.take_append_drop]
  generalize hq : r.drop z.toNat = q at *
  have h3 : (headB k ++ r).take ((headB k ++ r).length - 4) = headB k ++ blockB t := by
    rw [h2, ← List.append_assoc, List.length_append, hl, Nat.add_sub_cancel, List.take_left']
    rfl
  rw [h3]
  unfold sealB
  constructor
  · intro h
    rw [h2, ← List.append_assoc] at h
    exact (List.append_cancel_left h).symm
  · intro h
    rw [← h, h2, List.append_assoc]

set_option maxRecDepth 100000 in
set_option maxHeartbeats 2000000 in
theorem openR_any (k : Nat) (hk : k ≤ 255) (s : ByteArray) (hsz : s.size ≤ 4294967296) (w : World) (t : List UInt8) (e : Int) (hr : openB k s.data.toList = (t, e)) :
    Calls Try.prog 13 #[.int .i64 k, .string s] w fun e' w' => e' = .returned (.tuple #[.string ⟨t.toArray⟩, .int .i64 e]) ∧ Below w.heap.size w w' := by
  obtain ⟨c, hc⟩ : ∃ c, c = UInt8.ofNat k := ⟨_, rfl⟩
  have hck : (k : Int) = (c.toNat : Int) := by rw [hc, UInt8.toNat_ofNat']; omega
  have hck2 : k = c.toNat := by omega
  subst hck2
  have hlt := c.toNat_lt
  have hq1 : (c.toNat : Int) % 256 = (c.toNat : Int) := by omega
  have hq2 : ¬ (c.toNat : Int) < 0 := by omega
  have hq3 : ¬ 255 < (c.toNat : Int) := by omega
  have hcv := one_conv w c
  have hhd : headB c.toNat = [103, 108, 115] ++ [c] := by simp [headB]
  have hm1 : (⟨#[103, 108, 115]⟩ : ByteArray) ++ ⟨#[c]⟩ = ⟨([103, 108, 115] ++ [c]).toArray⟩ := append_mk [103, 108, 115] c
  rw [← hhd] at hm1
  obtain ⟨h, hh⟩ : ∃ h : ByteArray, (⟨(headB c.toNat).toArray⟩ : ByteArray) = h := ⟨_, rfl⟩
  have hd : Hid (h.data.toList = headB c.toNat) := by show _ = _; rw [← hh]
  have h4 : h.size = 4 := by rw [← hh]; rfl
  rw [hh] at hm1
  have hls : s.data.toList.length = s.size := by simp
  obtain ⟨t1, e1, h1⟩ : ∃ t1 e1, bhG (headB c.toNat) s.data.toList = (t1, e1) := ⟨_, _, rfl⟩
  have HR : Hid (bhG (h.data.toList.drop 0) (s.data.toList.drop 0) = (t1, e1)) := by show _ = _; rw [hd.out]; exact h1
  have HOB := Lib.hid hr
  have H1 := Lib.hid h1
  clear hh hck hhd hr h1 hc hk
  go_enter Try.func13, Try.ntmps13
  go_wp2_with fail
  have HB : Hid (Below w.heap.size w (w.alloc (.cells #[.int .u8 (c.toNat : Int)] 5))) := (Below.refl _ _).alloc (Nat.le_refl _) _
  clear hcv hq1 hq2 hq3 hm1
  go_loopg [7] 4 (fun g i wx => ∃ j : Nat, j ≤ 4 ∧ g = 4 - j ∧ i = .int .i64 j ∧ Below w.heap.size w wx ∧ j ≤ s.size ∧ Hid (bhG (h.data.toList.drop j) (s.data.toList.drop j) = (t1, e1)))
  case atStart => exact ⟨0, by omega, rfl, rfl, HB.out, Nat.zero_le _, HR⟩
  case round =>
    clear HR HB
    obtain ⟨j, hj, rfl, rfl, hb, hjs, hrd⟩ := hrel
    have HB := Lib.hid hb
    clear hb
    by_cases hj4 : j < 4
    · have i1 : (j : Int) < 4 := by omega
      by_cases hlt : j < s.size
      · have i3 : (j : Int) < (s.size : Int) := by omega
        have i4 : j < h.size := by omega
        have hd2 := hrd.out
        rw [drop_cons s j hlt, drop_cons h j i4] at hd2
        simp only [bhG] at hd2
        by_cases hq : s[j] = h[j]
        · rw [if_pos hq] at hd2
          have HD := Lib.hid hd2
          have hq' : ((s[j].toNat : Int) != (h[j].toNat : Int)) = false := by rw [hq]; simp
          clear hq hd2 hrd
          go_wp2_with fail
          go_quiet (fail)
          go_wp2_with fail
          go_roundg (4 - (j + 1))
          case rel => exact ⟨j + 1, by omega, rfl, by go_num, by first | exact HB.out | exact below_dN HB.out _, by omega, HD⟩
          case measure => omega
        · rw [if_neg hq] at hd2
          obtain ⟨rfl, rfl⟩ : [] = t1 ∧ 3 = e1 := by simpa using hd2
          have hq' : ((s[j].toNat : Int) != (h[j].toNat : Int)) = true := by
            simp only [bne_iff_ne, ne_eq]
            intro e
            exact hq (UInt8.toNat_inj.1 (by omega))
          have hr := HOB.out
          unfold openB at hr
          rw [H1.out] at hr
          obtain ⟨rfl, rfl⟩ : [] = t ∧ 3 = e := by simpa using hr
          clear hq hd2 hrd hr
          go_wp2_with fail
          go_quiet (fail)
          go_wp2_with fail
          go_ret2
          exact ⟨rfl, by first | exact HB.out | exact below_dN HB.out _⟩
      · obtain rfl : j = s.size := by omega
        have i4 : s.size < h.size := by omega
        have hd2 := hrd.out
        rw [drop_all s s.size (Nat.le_refl _), drop_cons h _ i4] at hd2
        obtain ⟨rfl, rfl⟩ : [] = t1 ∧ 2 = e1 := by simpa [bhG] using hd2
        have hr := HOB.out
        unfold openB at hr
        rw [H1.out] at hr
        obtain ⟨rfl, rfl⟩ : [] = t ∧ 2 = e := by simpa using hr
        clear hd2 hrd hr
        go_wp2_with fail
        go_ret2
        exact ⟨rfl, HB.out⟩
    · obtain rfl : j = 4 := by omega
      have hd2 := hrd.out
      rw [drop_all h 4 (by omega)] at hd2
      obtain ⟨ht, rfl⟩ : s.data.toList.drop 4 = t1 ∧ 0 = e1 := by simpa [bhG] using hd2
      have hr := HOB.out
      have hsuf := bhG_suffix _ _ _ H1.out
      unfold openB at hr
      rw [H1.out] at hr
      simp only [ne_eq, not_true, if_false] at hr
      obtain ⟨t2, z2, e2, h2⟩ : ∃ t2 z2 e2, Pl.rdBlock t1 = (t2, z2, e2) := ⟨_, _, _, rfl⟩
      obtain ⟨r1, hr1⟩ : ∃ r1, rest s 4 = r1 := ⟨_, rfl⟩
      have hrl : r1.data.toList = t1 := by rw [← hr1, rest_data]; exact ht
      have hx : s.extract 4 s.size = r1 := hr1
      have hrz : r1.size + 4 = s.size := by
        have e : r1.size = r1.data.toList.length := by simp
        rw [e, hrl, ← ht, List.length_drop]
        omega
      have hc2 : Hid (∀ w', Calls Try.prog 25 #[.string r1] w' fun e' w'' => e' = .returned (.tuple #[.string ⟨t2.toArray⟩, .int .i64 z2, .int .i64 e2]) ∧ Below w'.heap.size w' w'') := fun w' => readBlockR_any r1 w' (by omega) t2 z2 e2 (by rw [hrl]; exact h2)
      obtain ⟨⟨b5, b6⟩, b7, b8⟩ := rdBlock_bd _ _ _ _ h2
      have htl : t1.length = r1.size := by rw [← hrl]; simp
      rw [htl] at b6
      rw [h2] at hr
      clear hd2 hrd HOB hj hj4
      by_cases he2 : e2 = 0
      · subst he2
        simp only [not_true, if_false] at hr
        obtain ⟨z, rfl⟩ := Int.eq_ofNat_of_zero_le b5
        have hzl : (t1.drop (z : Int).toNat).length = r1.size - z := by rw [List.length_drop, htl]; simp
        have h2z : t2.length ≤ t1.length := by
          have h := Iv.block_one t1 t2 z h2
          have h' := congrArg List.length h
          unfold blockB at h'
          rw [List.length_append, List.length_take] at h'
          omega
        by_cases c1 : s.size < 8 + z
        · have hct : ctB s.data.toList (t1.drop (z : Int).toNat) = 2 := by
            unfold ctB
            rw [hzl, if_pos (by omega)]
          rw [hct] at hr
          obtain ⟨rfl, rfl⟩ : [] = t ∧ 2 = e := by simpa using hr
          have i1 : (s.size : Int) < 8 + (z : Int) := by omega
          clear hr hct hzl h2z h2 hsuf ht htl hrl hr1 b8
          go_wp2_with (go_at_call 25; refine (hc2.out _).mono ?_; rintro e1 w1 ⟨rfl, hb⟩; have HB := Lib.hid (HB.out.trans (hb.mono HB.out.size)); clear hb)
          go_ret2
          exact ⟨rfl, HB.out⟩
        · by_cases c2 : 8 + z < s.size
          · have hct : ctB s.data.toList (t1.drop (z : Int).toNat) = 5 := by
              unfold ctB
              rw [hzl, if_neg (by omega), if_pos (by omega)]
            rw [hct] at hr
            obtain ⟨rfl, rfl⟩ : [] = t ∧ 5 = e := by simpa using hr
            have i1 : 8 + (z : Int) < (s.size : Int) := by omega
            clear hr hct hzl h2z h2 hsuf ht htl hrl hr1 b8
            go_wp2_with (go_at_call 25; refine (hc2.out _).mono ?_; rintro e1 w1 ⟨rfl, hb⟩; have HB := Lib.hid (HB.out.trans (hb.mono HB.out.size)); clear hb)
            go_ret2
            exact ⟨rfl, HB.out⟩
          · have hiff := ends_iff c.toNat t1 t2 z h2 (by rw [hzl]; omega)
            rw [← hsuf] at hiff
            have hc3 : Hid (∀ w', Calls Try.prog 8 #[.int .i64 (c.toNat : Int), .string ⟨t2.toArray⟩] w' fun e' w'' => e' = .returned (.tuple #[.string ⟨(sealB c.toNat t2).toArray⟩, .int .i64 0]) ∧ Below w'.heap.size w' w'') := fun w' => sealR_c c ⟨t2.toArray⟩ (by rw [size_mk]; omega) w'
            by_cases hq : sealB c.toNat t2 = s.data.toList
            · have hct : ctB s.data.toList (t1.drop (z : Int).toNat) = 0 := by
                unfold ctB
                rw [hzl, if_neg (by omega), if_neg (by omega), if_pos (hiff.1 hq)]
              rw [hct] at hr
              obtain ⟨rfl, rfl⟩ : t2 = t ∧ 0 = e := by simpa using hr
              have hq' : (sealB c.toNat t2 == s.toList) = true := by rw [ByteArray.toList_eq, hq]; simp
              have i1 : (s.size : Int) = 8 + (z : Int) := by omega
              clear hr hct hzl h2z h2 hsuf ht htl hrl hr1 b8 hiff hq hls
              generalize sealB c.toNat t2 = q at *
              go_wp2_with (first
                | (go_at_call 25; refine (hc2.out _).mono ?_; rintro e1 w1 ⟨rfl, hb⟩; have HB := Lib.hid (HB.out.trans (hb.mono HB.out.size)); clear hb)
                | (go_at_call 8; refine (hc3.out _).mono ?_; rintro e1 w2 ⟨rfl, hb⟩; have HB := Lib.hid (HB.out.trans (hb.mono HB.out.size)); clear hb))
              go_ret2
              exact ⟨rfl, HB.out⟩
            · have hct : ctB s.data.toList (t1.drop (z : Int).toNat) = 6 := by
                unfold ctB
                rw [hzl, if_neg (by omega), if_neg (by omega), if_neg (fun h => hq (hiff.2 h))]
              rw [hct] at hr
              obtain ⟨rfl, rfl⟩ : [] = t ∧ 6 = e := by simpa using hr
              have hq' : (sealB c.toNat t2 == s.toList) = false := by rw [ByteArray.toList_eq]; simpa using hq
              have i1 : (s.size : Int) = 8 + (z : Int) := by omega
              clear hr hct hzl h2z h2 hsuf ht htl hrl hr1 b8 hiff hq hls
              generalize sealB c.toNat t2 = q at *
              go_wp2_with (first
                | (go_at_call 25; refine (hc2.out _).mono ?_; rintro e1 w1 ⟨rfl, hb⟩; have HB := Lib.hid (HB.out.trans (hb.mono HB.out.size)); clear hb)
                | (go_at_call 8; refine (hc3.out _).mono ?_; rintro e1 w2 ⟨rfl, hb⟩; have HB := Lib.hid (HB.out.trans (hb.mono HB.out.size)); clear hb))
              go_ret2
              exact ⟨rfl, HB.out⟩
      · rw [if_pos he2] at hr
        obtain ⟨rfl, rfl⟩ : [] = t ∧ e2 = e := by simpa using hr
        have he2' : (e2 != 0) = true := by simpa using he2
        clear hr he2 b5 b6 b7 b8 h2 hsuf ht htl hrl hr1
        go_wp2_with (go_at_call 25; refine (hc2.out _).mono ?_; rintro e1 w1 ⟨rfl, hb⟩; have HB := Lib.hid (HB.out.trans (hb.mono HB.out.size)); clear hb)
        go_ret2
        exact ⟨rfl, HB.out⟩
end Go.Proofs.Ytmflmckmamckfaa
