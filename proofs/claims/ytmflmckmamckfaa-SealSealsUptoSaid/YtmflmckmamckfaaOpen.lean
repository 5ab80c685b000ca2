/-
  What the program seals and opens: plain functions of a kind and a text.
-/
import Derived.Test.YtmflmckmamckfaaHead
import Derived.Test.YtmflmckmamckfaaInv
import Derived.BigQuiet
namespace Go.Proofs.Ytmflmckmamckfaa
open Go.RowKit

theorem below_dN {B : Nat} {a w : World} (h : Below B a w) : ∀ n, Below B a (w.drewN n) := by
  intro n
  induction n with
  | zero => exact h
  | succ n ih => exact ih.drew

/-- What is read behind a head: what is left, the error. -/
def bhG : List UInt8 → List UInt8 → List UInt8 × Int
  | [], l => (l, 0)
  | _ :: _, [] => ([], 2)
  | h :: t, c :: l => if c = h then bhG t l else ([], 3)
/-- What is left at the end, held against the checksum of what is ahead. -/
def ctB (b left : List UInt8) : Int :=
  if left.length < 4 then 2 else if 4 < left.length then 5 else if left = tailB (b.take (b.length - 4)) then 0 else 6
/-- What is opened: the text, the error. -/
def openB (k : Nat) (b : List UInt8) : List UInt8 × Int :=
  if (bhG (headB k) b).2 ≠ 0 then ([], (bhG (headB k) b).2)
  else if (Pl.rdBlock (bhG (headB k) b).1).2.2 ≠ 0 then ([], (Pl.rdBlock (bhG (headB k) b).1).2.2)
  else if ctB b ((bhG (headB k) b).1.drop (Pl.rdBlock (bhG (headB k) b).1).2.1.toNat) ≠ 0 then ([], ctB b ((bhG (headB k) b).1.drop (Pl.rdBlock (bhG (headB k) b).1).2.1.toNat))
  else ((Pl.rdBlock (bhG (headB k) b).1).1, 0)
/-- What is sealed. -/
def sealB (k : Nat) (l : List UInt8) : List UInt8 := (headB k ++ blockB l) ++ tailB (headB k ++ blockB l)

theorem ret_si {s1 s2 : ByteArray} {a b : Int} (h1 : s1 = s2) (h2 : a = b) : Ending.returned (.tuple #[.string s1, .int .i64 a]) = Ending.returned (.tuple #[.string s2, .int .i64 b]) := by rw [h1, h2]
theorem headB_length (k : Nat) : (headB k).length = 4 := rfl
theorem bhG_bd : ∀ (h l t : List UInt8) (e : Int), bhG h l = (t, e) → (e = 0 ∨ e = 2 ∨ e = 3) ∧ (e ≠ 0 → t = []) ∧ t.length ≤ l.length := by
  intro h
  induction h with
  | nil =>
    intro l t e hb
    obtain ⟨rfl, rfl⟩ : l = t ∧ 0 = e := by simpa [bhG] using hb
    exact ⟨by omega, fun h => absurd rfl h, Nat.le_refl _⟩
  | cons a h ih =>
    intro l t e hb
    cases l with
    | nil =>
      obtain ⟨rfl, rfl⟩ : [] = t ∧ 2 = e := by simpa [bhG] using hb
      exact ⟨by omega, fun _ => rfl, Nat.le_refl _⟩
    | cons c l =>
      simp only [bhG] at hb
      by_cases hc : c = a
      · rw [if_pos hc] at hb
        obtain ⟨h1, h2, h3⟩ := ih l t e hb
        exact ⟨h1, h2, by simp only [List.length_cons]; omega⟩
      · rw [if_neg hc] at hb
        obtain ⟨rfl, rfl⟩ : [] = t ∧ 3 = e := by simpa using hb
        exact ⟨by omega, fun _ => rfl, Nat.zero_le _⟩

set_option maxRecDepth 100000 in
set_option maxHeartbeats 1000000 in
theorem behindHead_any (k : Nat) (hk : k ≤ 255) (s : ByteArray) (hsz : s.size ≤ 9223372036854775807) (w : World) (t : List UInt8) (e : Int) (hr : bhG (headB k) s.data.toList = (t, e)) :
    Calls Try.prog 20 #[.int .i64 k, .string s] w fun e' w' => e' = .returned (.tuple #[.string ⟨t.toArray⟩, .int .i64 e]) ∧ Below w.heap.size w w' := by
  have hc := Lib.hid (head_any k hk w)
  obtain ⟨h, hh⟩ : ∃ h : ByteArray, (⟨(headB k).toArray⟩ : ByteArray) = h := ⟨_, rfl⟩
  have hd : Hid (h.data.toList = headB k) := by show _ = _; rw [← hh]
  have h4 : h.size = 4 := by rw [← hh]; rfl
  have HR : Hid (bhG (h.data.toList.drop 0) (s.data.toList.drop 0) = (t, e)) := by show _ = _; rw [hd.out]; exact hr
  have HH := Lib.hid hh
  clear hr hh
  go_enter Try.func20, Try.ntmps20
  go_wp2_with (refine hc.out.mono ?_; rintro e1 w1 ⟨rfl, hb⟩; rw [HH.out]; have HB := Lib.hid hb; clear hb)
  go_loopg [12] 4 (fun g i wx => ∃ j : Nat, j ≤ 4 ∧ g = 4 - j ∧ i = .int .i64 j ∧ Below w.heap.size w wx ∧ j ≤ s.size ∧ Hid (bhG (h.data.toList.drop j) (s.data.toList.drop j) = (t, e)))
  case atStart => exact ⟨0, by omega, rfl, rfl, HB.out, Nat.zero_le _, HR⟩
  case round =>
    clear HR HB
    obtain ⟨j, hj, rfl, rfl, hb, hjs, hrd⟩ := hrel
    have HB := Lib.hid hb
    clear hb
    by_cases hj4 : j < 4
    · have i1 : (j : Int) < 4 := by omega
      by_cases hlt : j < s.size
      · have i2 : ((j : Int) == (s.size : Int)) = false := by simp; omega
        have i3 : (j : Int) < (s.size : Int) := by omega
        have i4 : j < h.size := by omega
        have hd2 := hrd.out
        rw [drop_cons s j hlt, drop_cons h j i4] at hd2
        simp only [bhG] at hd2
        by_cases hq : s[j] = h[j]
        · rw [if_pos hq] at hd2
          have HD := Lib.hid hd2
          have hq' : ((s[j].toNat : Int) != (h[j].toNat : Int)) = false := by rw [hq]; simp
          clear hq hd2 hrd
          go_wp2_with fail
          go_quiet (fail)
          go_wp2_with fail
          go_roundg (4 - (j + 1))
          case rel => exact ⟨j + 1, by omega, rfl, by go_num, by first | exact HB.out | exact below_dN HB.out _, by omega, HD⟩
          case measure => omega
        · rw [if_neg hq] at hd2
          obtain ⟨rfl, rfl⟩ : [] = t ∧ 3 = e := by simpa using hd2
          have hq' : ((s[j].toNat : Int) != (h[j].toNat : Int)) = true := by
            simp only [bne_iff_ne, ne_eq]
            intro e
            exact hq (UInt8.toNat_inj.1 (by omega))
          clear hq hd2 hrd
          go_wp2_with fail
          go_quiet (fail)
          go_wp2_with fail
          go_ret2
          exact ⟨rfl, by first | exact HB.out | exact below_dN HB.out _⟩
      · obtain rfl : j = s.size := by omega
        have i4 : s.size < h.size := by omega
        have hd2 := hrd.out
        rw [drop_all s s.size (Nat.le_refl _), drop_cons h _ i4] at hd2
        obtain ⟨rfl, rfl⟩ : [] = t ∧ 2 = e := by simpa [bhG] using hd2
        clear hd2 hrd
        go_wp2_with fail
        go_ret2
        exact ⟨rfl, HB.out⟩
    · obtain rfl : j = 4 := by omega
      have hd2 := hrd.out
      rw [drop_all h 4 (by omega)] at hd2
      obtain ⟨ht, rfl⟩ : s.data.toList.drop 4 = t ∧ 0 = e := by simpa [bhG] using hd2
      have HT := Lib.hid ht
      clear hd2 hrd ht
      go_wp2_with fail
      go_ret2
      exact ⟨ret_si (by rw [← HT.out]; exact mk_of (rest_data s 4)) rfl, HB.out⟩

set_option maxRecDepth 100000 in
set_option maxHeartbeats 1000000 in
theorem checkTail_any (s r : ByteArray) (hsz : s.size ≤ 9223372036854775807) (hrz : r.size ≤ s.size) (w : World) (e : Int) (hr : ctB s.data.toList r.data.toList = e) :
    Calls Try.prog 23 #[.string s, .string r] w fun e' w' => e' = .returned (.int .i64 e) ∧ Below w.heap.size w w' := by
  have l1 : s.data.toList.length = s.size := by simp
  have l2 : r.data.toList.length = r.size := by simp
  unfold ctB at hr
  rw [l1, l2] at hr
  by_cases h1 : r.size < 4
  · rw [if_pos h1] at hr
    subst hr
    go_enter Try.func23, Try.ntmps23
    go_wp2_with fail
    go_ret
    exact ⟨rfl, Below.refl _ _⟩
  · rw [if_neg h1] at hr
    by_cases h2 : 4 < r.size
    · rw [if_pos h2] at hr
      subst hr
      go_enter Try.func23, Try.ntmps23
      go_wp2_with fail
      go_ret
      exact ⟨rfl, Below.refl _ _⟩
    · rw [if_neg h2] at hr
      have h3 : r.size = 4 := by omega
      obtain ⟨n, hn⟩ : ∃ n, s.size = n + 4 := ⟨s.size - 4, by omega⟩
      have hc : Hid (Calls Try.prog 18 #[.string (s.extract 0 n)] w (StrPost w.heap.size w (tailB (s.data.toList.take n)))) := by
        have h := tail_any (s.extract 0 n) (by rw [ByteArray.size_extract]; omega) w
        have e : (s.extract 0 n).data.toList = s.data.toList.take n := by rw [Lib.extract_data]; simp
        rw [e] at h
        exact h
      rw [show s.size - 4 = n from by omega] at hr
      generalize tailB (s.data.toList.take n) = q at *
      clear h1 h2 l1 l2
      by_cases hq : r.data.toList = q
      · rw [if_pos hq] at hr
        subst hr
        have hq' : (r.toList == q) = true := by rw [ByteArray.toList_eq, hq]; simp
        clear hq
        go_enter Try.func23, Try.ntmps23
        go_wp2_with (refine hc.out.mono ?_; rintro e1 w1 ⟨rfl, hb⟩; have HB := Lib.hid hb; clear hb)
        go_ret
        exact ⟨rfl, HB.out⟩
      · rw [if_neg hq] at hr
        subst hr
        have hq' : (r.toList == q) = false := by rw [ByteArray.toList_eq]; simpa using hq
        clear hq
        go_enter Try.func23, Try.ntmps23
        go_wp2_with (refine hc.out.mono ?_; rintro e1 w1 ⟨rfl, hb⟩; have HB := Lib.hid hb; clear hb)
        go_ret
        exact ⟨rfl, HB.out⟩

set_option maxRecDepth 100000 in
set_option maxHeartbeats 1000000 in
/-- What Seal answers, of no kind. -/
theorem seal_no (n : Int) (s : ByteArray) (w : World) (hn : ¬ (0 ≤ n ∧ n ≤ 255)) :
    Calls Try.prog 7 #[.int .i64 n, .string s] w fun e' w' => e' = .returned (.tuple #[.string ⟨#[]⟩, .int .i64 1]) ∧ w = w' := by
  have hc := Lib.hid (isKind_any n w)
  have hd : decide (0 ≤ n ∧ n ≤ 255) = false := decide_eq_false hn
  rw [hd] at hc
  clear hd hn
  go_enter Try.func7, Try.ntmps7
  go_wp2_with (refine hc.out.mono ?_; rintro e1 w1 ⟨rfl, rfl⟩)
  go_ret2
  exact ⟨rfl, rfl⟩
set_option maxRecDepth 100000 in
set_option maxHeartbeats 1000000 in
/-- What Open answers, of no kind. -/
theorem open_no (n : Int) (s : ByteArray) (w : World) (hn : ¬ (0 ≤ n ∧ n ≤ 255)) :
    Calls Try.prog 12 #[.int .i64 n, .string s] w fun e' w' => e' = .returned (.tuple #[.string ⟨#[]⟩, .int .i64 1]) ∧ w = w' := by
  have hc := Lib.hid (isKind_any n w)
  have hd : decide (0 ≤ n ∧ n ≤ 255) = false := decide_eq_false hn
  rw [hd] at hc
  clear hd hn
  go_enter Try.func12, Try.ntmps12
  go_wp2_with (refine hc.out.mono ?_; rintro e1 w1 ⟨rfl, rfl⟩)
  go_ret2
  exact ⟨rfl, rfl⟩
theorem tailB_length (l : List UInt8) : (tailB l).length = 4 := rfl
theorem headBlock_length (k : Nat) (l : List UInt8) : (headB k ++ blockB l).length ≤ l.length + 13 := by
  have := numB_length (l.length : Int)
  unfold blockB
  rw [List.length_append, List.length_append, headB_length]
  omega
theorem sealB_length (k : Nat) (l : List UInt8) : (sealB k l).length ≤ l.length + 17 := by
  have := headBlock_length k l
  unfold sealB
  rw [List.length_append, tailB_length]
  omega
theorem size_mk (l : List UInt8) : (⟨l.toArray⟩ : ByteArray).size = l.length := by simp [ByteArray.size]

set_option maxRecDepth 100000 in
set_option maxHeartbeats 1000000 in
/-- What Seal answers, of a kind. -/
theorem seal_any (k : Nat) (hk : k ≤ 255) (s : ByteArray) (hsz : s.size ≤ 140737488351232) (w : World) :
    Calls Try.prog 7 #[.int .i64 k, .string s] w fun e' w' => e' = .returned (.tuple #[.string ⟨(sealB k s.data.toList).toArray⟩, .int .i64 0]) ∧ Below w.heap.size w w' := by
  have hc0 := Lib.hid (isKind_any k w)
  have hd : decide (0 ≤ (k : Int) ∧ (k : Int) ≤ 255) = true := decide_eq_true (by omega)
  rw [hd] at hc0
  have hc1 := Lib.hid (head_any k hk w)
  have hc2 : Hid (∀ w', Calls Try.prog 17 #[.string s] w' (StrPost w'.heap.size w' (blockB s.data.toList))) := fun w' => block_w s w' (by omega)
  have ha := headBlock_length k s.data.toList
  have hl : s.data.toList.length = s.size := by simp
  have hz : (⟨(headB k ++ blockB s.data.toList).toArray⟩ : ByteArray).size ≤ 140737488351245 := by
    rw [size_mk]; omega
  have hc3 : Hid (∀ w', Calls Try.prog 18 #[.string ⟨(headB k ++ blockB s.data.toList).toArray⟩] w' (StrPost w'.heap.size w' (tailB (headB k ++ blockB s.data.toList)))) := fun w' => tail_any _ (by omega) w'
  have hb1 : (⟨(headB k).toArray⟩ : ByteArray).size ≤ 4 := by rw [size_mk, headB_length]; omega
  have hb2 : (⟨(blockB s.data.toList).toArray⟩ : ByteArray).size ≤ 140737488351245 := by
    rw [size_mk] at hz ⊢
    rw [List.length_append] at hz
    omega
  have hb3 : (⟨(tailB (headB k ++ blockB s.data.toList)).toArray⟩ : ByteArray).size ≤ 4 := by rw [size_mk, tailB_length]; omega
  have hm1 := Lib.hid (add_mk (headB k) (blockB s.data.toList))
  unfold sealB
  generalize blockB s.data.toList = bl at *
  generalize headB k = hd1 at *
  have hm2 := Lib.hid (add_mk (hd1 ++ bl) (tailB (hd1 ++ bl)))
  generalize tailB (hd1 ++ bl) = tl at *
  have hq : (⟨hd1.toArray⟩ : ByteArray) ++ ⟨bl.toArray⟩ = ⟨(hd1 ++ bl).toArray⟩ := hm1.out
  clear hd ha hl
  go_enter Try.func7, Try.ntmps7
  go_wp2_with (first
    | (go_at_call 15; refine hc0.out.mono ?_; rintro e1 w1 ⟨rfl, rfl⟩)
    | (go_at_call 16; refine hc1.out.mono ?_; rintro e1 w1 ⟨rfl, hb⟩; have HB1 := Lib.hid hb; clear hb)
    | (go_at_call 17; refine (hc2.out _).mono ?_; rintro e1 w2 ⟨rfl, hb⟩; have HB2 : Hid (Below w.heap.size w w2) := HB1.out.trans (hb.mono HB1.out.size); clear hb)
    | (go_at_call 18; refine (hc3.out _).mono ?_; rintro e1 w3 ⟨rfl, hb⟩; have HB3 : Hid (Below w.heap.size w w3) := HB2.out.trans (hb.mono HB2.out.size); clear hb))
  go_ret2
  exact ⟨ret_si hm2.out rfl, HB3.out⟩

theorem ctB_bd (b r : List UInt8) : ctB b r = 0 ∨ ctB b r = 2 ∨ ctB b r = 5 ∨ ctB b r = 6 := by
  unfold ctB
  repeat' split
  all_goals omega

set_option maxRecDepth 100000 in
set_option maxHeartbeats 1000000 in
/-- What Open answers, of a kind. -/
theorem open_any (k : Nat) (hk : k ≤ 255) (s : ByteArray) (hsz : s.size ≤ 9223372036854775807) (w : World) (t : List UInt8) (e : Int) (hr : openB k s.data.toList = (t, e)) :
    Calls Try.prog 12 #[.int .i64 k, .string s] w fun e' w' => e' = .returned (.tuple #[.string ⟨t.toArray⟩, .int .i64 e]) ∧ Below w.heap.size w w' := by
  have hc0 := Lib.hid (isKind_any k w)
  have hd : decide (0 ≤ (k : Int) ∧ (k : Int) ≤ 255) = true := decide_eq_true (by omega)
  rw [hd] at hc0
  clear hd
  obtain ⟨t1, e1, h1⟩ : ∃ t1 e1, bhG (headB k) s.data.toList = (t1, e1) := ⟨_, _, rfl⟩
  have hc1 := Lib.hid (behindHead_any k hk s hsz w t1 e1 h1)
  obtain ⟨b1, b2, b3⟩ := bhG_bd _ _ _ _ h1
  have hl : s.data.toList.length = s.size := by simp
  unfold openB at hr
  rw [h1] at hr
  clear h1
  by_cases he1 : e1 = 0
  · subst he1
    simp only [ne_eq, not_true, if_false] at hr
    obtain ⟨t2, z2, e2, h2⟩ : ∃ t2 z2 e2, Pl.rdBlock t1 = (t2, z2, e2) := ⟨_, _, _, rfl⟩
    have hz1 : (⟨t1.toArray⟩ : ByteArray).size ≤ s.size := by rw [size_mk]; omega
    have hc2 : Hid (∀ w' b, Cur w' b ⟨t1.toArray⟩ → Calls Try.prog 22 #[.pointer (some ⟨b, 0, none⟩)] w' fun e' w'' => e' = .returned (.tuple #[.string ⟨t2.toArray⟩, .int .i64 e2]) ∧ Below b w' w'' ∧ Cur w'' b (rest ⟨t1.toArray⟩ z2)) := fun w' b hcur => block_any ⟨t1.toArray⟩ b w' hcur (by omega) t2 z2 e2 h2
    obtain ⟨_, b5, b6⟩ := rdBlock_bd _ _ _ _ h2
    rw [h2] at hr
    clear h2 b1 b2
    by_cases he2 : e2 = 0
    · subst he2
      simp only [not_true, if_false] at hr
      obtain ⟨e3, h3⟩ : ∃ e3, ctB s.data.toList (t1.drop z2.toNat) = e3 := ⟨_, rfl⟩
      have hr3 : (rest ⟨t1.toArray⟩ z2).data.toList = t1.drop z2.toNat := rest_data _ _
      have hz3 : (rest ⟨t1.toArray⟩ z2).size ≤ s.size := by
        have : (rest ⟨t1.toArray⟩ z2).size = (rest ⟨t1.toArray⟩ z2).data.toList.length := by simp
        rw [this, hr3, List.length_drop]
        omega
      have hc3 : Hid (∀ w', Calls Try.prog 23 #[.string s, .string (rest ⟨t1.toArray⟩ z2)] w' fun e' w'' => e' = .returned (.int .i64 e3) ∧ Below w'.heap.size w' w'') := fun w' => checkTail_any s _ hsz hz3 w' e3 (by rw [hr3]; exact h3)
      have hb3 := ctB_bd s.data.toList (t1.drop z2.toNat)
      rw [h3] at hr hb3
      clear h3 hr3 hz3 b3 b5 b6 hl hz1
      by_cases he3 : e3 = 0
      · subst he3
        obtain ⟨rfl, rfl⟩ : t2 = t ∧ 0 = e := by simpa using hr
        clear hr hb3
        go_enter Try.func12, Try.ntmps12
        go_wp2_with (first
          | (go_at_call 15; refine hc0.out.mono ?_; rintro e1 w1 ⟨rfl, rfl⟩)
          | (go_at_call 20; refine hc1.out.mono ?_; rintro e1 w1 ⟨rfl, hb⟩; have HB1 := Lib.hid hb; clear hb)
          | (go_at_call 21; refine (at_any _ _).mono ?_; rintro e1 w2 ⟨rfl, rfl⟩; have HC := Lib.hid (at_cur ⟨t1.toArray⟩ w1 51); have HB2 : Hid (Below w.heap.size w (w1.alloc (.cells #[.string ⟨t1.toArray⟩] 51))) := HB1.out.alloc HB1.out.size _)
          | (go_at_call 22; refine (hc2.out _ _ HC.out).mono ?_; rintro e1 w3 ⟨rfl, hb, hcu⟩; have HB3 : Hid (Below w.heap.size w w3) := HB2.out.trans (hb.mono HB1.out.size); have HC3 := Lib.hid hcu; clear hb hcu)
          | (go_at_call 24; refine (rest_any _ _ _ HC3.out).mono ?_; rintro e1 w4 ⟨rfl, rfl⟩)
          | (go_at_call 23; refine (hc3.out _).mono ?_; rintro e1 w5 ⟨rfl, hb⟩; have HB5 : Hid (Below w.heap.size w w5) := HB3.out.trans (hb.mono HB3.out.size); clear hb))
        trace_state
        go_ret2
        exact ⟨rfl, HB5.out⟩
      · rw [if_pos he3] at hr
        obtain ⟨rfl, rfl⟩ : [] = t ∧ e3 = e := by simpa using hr
        have he3' : (e3 != 0) = true := by simpa using he3
        clear hr hb3 he3
        go_enter Try.func12, Try.ntmps12
        go_wp2_with (first
          | (go_at_call 15; refine hc0.out.mono ?_; rintro e1 w1 ⟨rfl, rfl⟩)
          | (go_at_call 20; refine hc1.out.mono ?_; rintro e1 w1 ⟨rfl, hb⟩; have HB1 := Lib.hid hb; clear hb)
          | (go_at_call 21; refine (at_any _ _).mono ?_; rintro e1 w2 ⟨rfl, rfl⟩; have HC := Lib.hid (at_cur ⟨t1.toArray⟩ w1 51); have HB2 : Hid (Below w.heap.size w (w1.alloc (.cells #[.string ⟨t1.toArray⟩] 51))) := HB1.out.alloc HB1.out.size _)
          | (go_at_call 22; refine (hc2.out _ _ HC.out).mono ?_; rintro e1 w3 ⟨rfl, hb, hcu⟩; have HB3 : Hid (Below w.heap.size w w3) := HB2.out.trans (hb.mono HB1.out.size); have HC3 := Lib.hid hcu; clear hb hcu)
          | (go_at_call 24; refine (rest_any _ _ _ HC3.out).mono ?_; rintro e1 w4 ⟨rfl, rfl⟩)
          | (go_at_call 23; refine (hc3.out _).mono ?_; rintro e1 w5 ⟨rfl, hb⟩; have HB5 : Hid (Below w.heap.size w w5) := HB3.out.trans (hb.mono HB3.out.size); clear hb))
        go_ret2
        exact ⟨rfl, HB5.out⟩
    · rw [if_pos he2] at hr
      obtain ⟨rfl, rfl⟩ : [] = t ∧ e2 = e := by simpa using hr
      have he2' : (e2 != 0) = true := by simpa using he2
      clear hr he2 b3 b5 b6 hl hz1
      go_enter Try.func12, Try.ntmps12
      go_wp2_with (first
        | (go_at_call 15; refine hc0.out.mono ?_; rintro e1 w1 ⟨rfl, rfl⟩)
        | (go_at_call 20; refine hc1.out.mono ?_; rintro e1 w1 ⟨rfl, hb⟩; have HB1 := Lib.hid hb; clear hb)
        | (go_at_call 21; refine (at_any _ _).mono ?_; rintro e1 w2 ⟨rfl, rfl⟩; have HC := Lib.hid (at_cur ⟨t1.toArray⟩ w1 51); have HB2 : Hid (Below w.heap.size w (w1.alloc (.cells #[.string ⟨t1.toArray⟩] 51))) := HB1.out.alloc HB1.out.size _)
        | (go_at_call 22; refine (hc2.out _ _ HC.out).mono ?_; rintro e1 w3 ⟨rfl, hb, hcu⟩; have HB3 : Hid (Below w.heap.size w w3) := HB2.out.trans (hb.mono HB1.out.size); clear hb hcu))
      go_ret2
      exact ⟨rfl, HB3.out⟩
  · rw [if_pos he1] at hr
    obtain ⟨rfl, rfl⟩ : [] = t ∧ e1 = e := by simpa using hr
    have he1' : (e1 != 0) = true := by simpa using he1
    clear hr he1 b1 b2 b3 hl
    go_enter Try.func12, Try.ntmps12
    go_wp2_with (first
      | (go_at_call 15; refine hc0.out.mono ?_; rintro e1 w1 ⟨rfl, rfl⟩)
      | (go_at_call 20; refine hc1.out.mono ?_; rintro e1 w1 ⟨rfl, hb⟩; have HB1 := Lib.hid hb; clear hb))
    go_ret2
    exact ⟨rfl, HB1.out⟩
end Go.Proofs.Ytmflmckmamckfaa
