/-
  What was packed is read back; what is read is just what it is packed as: the walk of the statement.
-/
import Derived.Test.YtokdjaljeckghaaPt
namespace Go.Proofs.Ytokdjaljeckghaa
open Go.RowKit
theorem chB_ge : ∀ (k : Nat) (l : List Nat), l.length ≤ k → l.length ≤ 128 * (Bp.chB k l).length := by
  intro k
  induction k with
  | zero => intro l h; omega
  | succ k ih =>
    intro l h
    simp only [Bp.chB]
    split
    · omega
    · have := ih (l.drop 128) (by rw [List.length_drop]; omega)
      rw [List.length_drop] at this
      rw [List.length_append, Bp.blkB_length]
      omega
theorem plcs_ge {l : List Pt.Po} {s : List UInt8} (h : Pt.bytes l = s) : (Pt.plcs l).length ≤ 128 * s.length := by
  have h1 := chB_ge _ ((Pt.plcs l).map Int.toNat) (Nat.le_refl _)
  rw [← h]
  unfold Pt.bytes
  rw [List.length_append, List.length_append]
  have h2 : (Bp.chB ((Pt.plcs l).map Int.toNat).length ((Pt.plcs l).map Int.toNat)).length ≤ (Bp.packB ((Pt.plcs l).map Int.toNat)).length := by
    unfold Bp.packB
    rw [List.length_append]
    omega
  rw [List.length_map] at h1
  rw [List.length_map] at h2
  omega
/-- What Read answers, of postings. -/
theorem read_ok (w : World) (s : ByteArray) (hs : s.size ≤ 134000000) (l : List Pt.Po) (h : Pt.read s.data.toList = (l, 0)) :
    Calls Try.prog 17 #[.string s] w fun e w' => ∃ v', e = .returned (.tuple #[v', .int .i64 0]) ∧ Below w.heap.size w w' ∧ PoS (fun g => w.heap.size ≤ g) w' v' l := by
  refine (read_any w s hs).mono ?_
  rintro e w' ⟨v', rfl, hb, h1 | ⟨_, g, n, vs, rfl, hn, hP⟩⟩
  · rw [h] at h1
    exact absurd rfl h1.1
  · rw [h] at hn hP ⊢
    obtain ⟨c, hc, hc2, _⟩ := hP.blk
    refine ⟨_, rfl, hb, ?_⟩
    by_cases hm : n ≤ 1099511627776
    · exact (hP.whole hn.symm hm).po
    · exfalso
      have hk := Pt.chk_len (Pt.read_one h).1
      have : n = l.length := hn
      omega
theorem read_no (w : World) (s : ByteArray) (hs : s.size ≤ 134000000) (x : Int) (hx : x ≠ 0) (h : (Pt.read s.data.toList).2 = x) :
    Calls Try.prog 17 #[.string s] w fun e w' => e = .returned (.tuple #[.slice none 0 0, .int .i64 x]) ∧ Below w.heap.size w w' := by
  refine (read_any w s hs).mono ?_
  rintro e w' ⟨v', rfl, hb, ⟨_, rfl⟩ | ⟨h1, _⟩⟩
  · rw [h]
    exact ⟨rfl, hb⟩
  · rw [h] at h1
    exact absurd h1 hx
theorem bytes_len {d : List Pt.Po} (h : Pt.chk (-1) d = 0) (h2 : (Pt.plcs d).length ≤ 1048576) : (Pt.bytes d).length ≤ 32000000 := by
  obtain ⟨k1, k2, k3⟩ := chk_pkd h (by omega)
  have hl := Pt.chk_len h
  have e1 := k1.len
  have e2 := k2.len
  have e3 := k3.len
  have f1 : (Pt.docs d).length = d.length := by unfold Pt.docs; rw [dl_length, List.length_map]
  have f2 : (cntsI d).length = d.length := by unfold cntsI Pt.cnts; rw [List.length_map, List.length_map]
  unfold Pt.bytes
  rw [List.length_append, List.length_append]
  omega
theorem toL (s : ByteArray) : s.toList = s.data.toList := ByteArray.toList_eq s
set_option maxRecDepth 100000 in
set_option maxHeartbeats 4000000 in
theorem back14_walk (w : World) (F : Nat → Prop) (v : Value) (d : List Pt.Po) (s more : ByteArray) (h : PoS F w v d) (hd : (Pt.plcs d).length ≤ 1048576) (hs : s.size ≤ 1048576) (hm : more.size ≤ 1048576) :
    Calls Try.prog 5 #[v, .string s, .string more] w fun e w' => e = .returned (.bool true) ∧ Below w.heap.size w w' := by
  have haw := Lib.hid (fun w => awake14_any w)
  have hpk := Lib.hid (pack_any w F v d h (by omega))
  have HP := Lib.hid h
  obtain ⟨L, x, hrs⟩ : ∃ L x, Pt.read s.data.toList = (L, x) := ⟨_, _, rfl⟩
  obtain ⟨a, cap, hv, _⟩ := id h
  obtain ⟨n, hn⟩ : ∃ n, n = d.length := ⟨_, rfl⟩
  rw [← hn] at hv
  clear hn h
  by_cases hx : x = 0
  · subst hx
    obtain ⟨hcL, hbL⟩ := Pt.read_one hrs
    have hC : Hid (∀ wx : World, Calls Try.prog 17 #[.string s] wx fun e w' => ∃ v', e = .returned (.tuple #[v', .int .i64 0]) ∧ Below wx.heap.size wx w' ∧ PoS (fun g => wx.heap.size ≤ g) w' v' L) := fun wx => read_ok wx s (by omega) L hrs
    have hpl : (Pt.plcs L).length ≤ 134217728 := by
      have := plcs_ge hbL
      rw [arr_len] at this
      omega
    have hq : Hid (∀ (wx : World) (u : Value) (G : Nat → Prop), PoS G wx u L → Calls Try.prog 11 #[u] wx fun e w' => e = .returned (.tuple #[.string s, .int .i64 0]) ∧ Below wx.heap.size wx w') := fun wx u G hu => by
      have h1 := pack_any wx G u L hu (by omega)
      rw [show Pt.pack L = (s.data.toList, 0) by unfold Pt.pack; rw [if_pos hcL, hbL]] at h1
      exact h1
    have hTs : (s.toList == s.toList) = true := by simp
    clear hcL hbL hpl
    by_cases hc : Pt.chk (-1) d = 0
    · have hbl := bytes_len hc hd
      obtain ⟨P, hP⟩ : ∃ P : ByteArray, P = ⟨(Pt.bytes d).toArray⟩ := ⟨_, rfl⟩
      have hPd : P.data.toList = Pt.bytes d := by rw [hP]
      have hPs : P.size ≤ 32000000 := by rw [← arr_len, hPd]; exact hbl
      rw [show Pt.pack d = (Pt.bytes d, 0) by unfold Pt.pack; rw [if_pos hc], ← hP] at hpk
      have hback := fun r => Pt.read_back hc (by have := Pt.chk_len hc; omega) (by omega) (fun p hp => by have := Pt.chkA_len (Pt.chk_mem hc p hp).2.2.2; omega) r
      have hA : Hid (∀ wx : World, Calls Try.prog 17 #[.string P] wx fun e w' => ∃ v', e = .returned (.tuple #[v', .int .i64 0]) ∧ Below wx.heap.size wx w' ∧ PoS (fun g => wx.heap.size ≤ g) w' v' d) := fun wx => read_ok wx P (by omega) d (by have := hback []; rw [List.append_nil, if_pos rfl] at this; rw [hPd]; exact this)
      have hPM : (P ++ more).data.toList = Pt.bytes d ++ more.data.toList := by rw [ByteArray.data_append, Array.toList_append, hPd]
      have hPMs : (P ++ more).size ≤ 134000000 := by rw [ByteArray.size_append]; omega
      have hno : ¬ 9223372036854775807 < P.size + more.size := by omega
      obtain ⟨Q, hQ⟩ : ∃ Q, P ++ more = Q := ⟨_, rfl⟩
      rw [hQ] at hPM hPMs
      have hsame : Hid (∀ (wx : World) (u : Value) (G : Nat → Prop), PoS G wx u d → Below w.heap.size w wx → Calls Try.prog 16 #[u, v] wx fun e w' => e = .returned (.bool true) ∧ Below wx.heap.size wx w') := fun wx u G hu hb => by
        have h1 := sameP_any wx G F u v d d hu (HP.out.keep hb.size fun g _ hg => hb.block g hg)
        rw [decide_eq_true rfl] at h1
        exact h1
      subst hv
      by_cases hm0 : more.size = 0
      · have hT := empty_true more hm0
        have hB : Hid (∀ wx : World, Calls Try.prog 17 #[.string Q] wx fun e w' => ∃ v', e = .returned (.tuple #[v', .int .i64 0]) ∧ Below wx.heap.size wx w') := fun wx => (read_ok wx Q hPMs d (by rw [hPM, hback, if_pos (List.length_eq_zero_iff.1 (by rw [arr_len]; exact hm0))])).mono fun e w' ⟨v', e1, e2, _⟩ => ⟨v', e1, e2⟩
        clear hback hPM hPMs hP hPd hc hm0 hbl hd
        go_enter Try.func5, Try.ntmps5
        go_wp2_with (first
          | (go_at_call 11; refine hpk.out.mono ?_; rintro e1 w1 ⟨rfl, hb1⟩; have HB1 := Lib.hid hb1; clear hb1 hpk)
          | (go_at_call 13; refine (haw.out _).mono ?_; rintro e1 w2 ⟨rfl, hb2⟩; have HB2 := Lib.hid (HB1.out.trans (hb2.mono HB1.out.size)); clear hb2)
          | (go_at_call 17; refine (hA.out _).mono ?_; rintro e1 w3 ⟨v3, rfl, hb3, hp3⟩; have HB3 := Lib.hid (HB2.out.trans (hb3.mono HB2.out.size)); have HP3 := Lib.hid hp3; clear hb3 hp3 hA)
          | (go_at_call 17; refine (hB.out _).mono ?_; rintro e1 w4 ⟨v4, rfl, hb4⟩; have HB4 := Lib.hid (HB3.out.trans (hb4.mono HB3.out.size)); have HP4 := Lib.hid (HP3.out.below hb4); clear hb4 hB)
          | (go_at_call 16; refine (hsame.out _ _ _ HP4.out HB4.out).mono ?_; rintro e1 w5 ⟨rfl, hb5⟩; have HBY := Lib.hid (HB4.out.trans (hb5.mono HB4.out.size)); clear hb5)
          | (go_at_call 17; refine (hC.out _).mono ?_; rintro e1 w7 ⟨v7, rfl, hb7, hp7⟩; have HB7 := Lib.hid (HBY.out.trans (hb7.mono HBY.out.size)); have HP7 := Lib.hid hp7; obtain ⟨a7, c7, f7, _⟩ := hp7; obtain ⟨n7, hn7⟩ : ∃ n7, n7 = L.length := ⟨_, rfl⟩; rw [← hn7] at f7; clear hb7 hn7; subst f7)
          | (go_at_call 11; refine (hq.out _ _ _ HP7.out).mono ?_; rintro e1 w8 ⟨rfl, hb8⟩; have HBZ := Lib.hid (HB7.out.trans (hb8.mono HB7.out.size)); clear hb8))
        go_ret
        exact ⟨by first | rfl | (rw [hTs]; rfl), HBZ.out⟩
      · have hT := empty_false more (by omega)
        have hB : Hid (∀ wx : World, Calls Try.prog 17 #[.string Q] wx fun e w' => ∃ v', e = .returned (.tuple #[v', .int .i64 5]) ∧ Below wx.heap.size wx w') := fun wx => (read_no wx Q hPMs 5 (by decide) (by rw [hPM, hback, if_neg (fun e => hm0 (by rw [← arr_len, e]; rfl))])).mono fun e w' ⟨e1, e2⟩ => ⟨_, e1, e2⟩
        clear hback hPM hPMs hP hPd hc hm0 hbl hd
        go_enter Try.func5, Try.ntmps5
        go_wp2_with (first
          | (go_at_call 11; refine hpk.out.mono ?_; rintro e1 w1 ⟨rfl, hb1⟩; have HB1 := Lib.hid hb1; clear hb1 hpk)
          | (go_at_call 13; refine (haw.out _).mono ?_; rintro e1 w2 ⟨rfl, hb2⟩; have HB2 := Lib.hid (HB1.out.trans (hb2.mono HB1.out.size)); clear hb2)
          | (go_at_call 17; refine (hA.out _).mono ?_; rintro e1 w3 ⟨v3, rfl, hb3, hp3⟩; have HB3 := Lib.hid (HB2.out.trans (hb3.mono HB2.out.size)); have HP3 := Lib.hid hp3; clear hb3 hp3 hA)
          | (go_at_call 17; refine (hB.out _).mono ?_; rintro e1 w4 ⟨v4, rfl, hb4⟩; have HB4 := Lib.hid (HB3.out.trans (hb4.mono HB3.out.size)); have HP4 := Lib.hid (HP3.out.below hb4); clear hb4 hB)
          | (go_at_call 16; refine (hsame.out _ _ _ HP4.out HB4.out).mono ?_; rintro e1 w5 ⟨rfl, hb5⟩; have HBY := Lib.hid (HB4.out.trans (hb5.mono HB4.out.size)); clear hb5)
          | (go_at_call 17; refine (hC.out _).mono ?_; rintro e1 w7 ⟨v7, rfl, hb7, hp7⟩; have HB7 := Lib.hid (HBY.out.trans (hb7.mono HBY.out.size)); have HP7 := Lib.hid hp7; obtain ⟨a7, c7, f7, _⟩ := hp7; obtain ⟨n7, hn7⟩ : ∃ n7, n7 = L.length := ⟨_, rfl⟩; rw [← hn7] at f7; clear hb7 hn7; subst f7)
          | (go_at_call 11; refine (hq.out _ _ _ HP7.out).mono ?_; rintro e1 w8 ⟨rfl, hb8⟩; have HBZ := Lib.hid (HB7.out.trans (hb8.mono HB7.out.size)); clear hb8))
        go_ret
        exact ⟨by first | rfl | (rw [hTs]; rfl), HBZ.out⟩
    · obtain ⟨c, hcc⟩ : ∃ c, c = Pt.chk (-1) d := ⟨_, rfl⟩
      rw [show Pt.pack d = ([], Pt.chk (-1) d) by unfold Pt.pack; rw [if_neg hc], ← hcc] at hpk
      have hcf : ((c : Int) == 0) = false := by rw [hcc]; simpa using hc
      clear hcc hc hd
      subst hv
      go_enter Try.func5, Try.ntmps5
      go_wp2_with (first
        | (go_at_call 11; refine hpk.out.mono ?_; rintro e1 w1 ⟨rfl, hb1⟩; have HB1 := Lib.hid hb1; clear hb1 hpk)
        | (go_at_call 13; refine (haw.out _).mono ?_; rintro e1 w2 ⟨rfl, hb2⟩; have HBY := Lib.hid (HB1.out.trans (hb2.mono HB1.out.size)); clear hb2)
        | (go_at_call 17; refine (hC.out _).mono ?_; rintro e1 w7 ⟨v7, rfl, hb7, hp7⟩; have HB7 := Lib.hid (HBY.out.trans (hb7.mono HBY.out.size)); have HP7 := Lib.hid hp7; obtain ⟨a7, c7, f7, _⟩ := hp7; obtain ⟨n7, hn7⟩ : ∃ n7, n7 = L.length := ⟨_, rfl⟩; rw [← hn7] at f7; clear hb7 hn7; subst f7)
        | (go_at_call 11; refine (hq.out _ _ _ HP7.out).mono ?_; rintro e1 w8 ⟨rfl, hb8⟩; have HBZ := Lib.hid (HB7.out.trans (hb8.mono HB7.out.size)); clear hb8))
      go_ret
      exact ⟨by first | rfl | (rw [hTs]; rfl), HBZ.out⟩
  · have hC : Hid (∀ wx : World, Calls Try.prog 17 #[.string s] wx fun e w' => e = .returned (.tuple #[.slice none 0 0, .int .i64 x]) ∧ Below wx.heap.size wx w') := fun wx => read_no wx s (by omega) x hx (by rw [hrs])
    have hne : ((x : Int) != 0) = true := by simpa using hx
    clear hx hrs
    by_cases hc : Pt.chk (-1) d = 0
    · have hbl := bytes_len hc hd
      obtain ⟨P, hP⟩ : ∃ P : ByteArray, P = ⟨(Pt.bytes d).toArray⟩ := ⟨_, rfl⟩
      have hPd : P.data.toList = Pt.bytes d := by rw [hP]
      have hPs : P.size ≤ 32000000 := by rw [← arr_len, hPd]; exact hbl
      rw [show Pt.pack d = (Pt.bytes d, 0) by unfold Pt.pack; rw [if_pos hc], ← hP] at hpk
      have hback := fun r => Pt.read_back hc (by have := Pt.chk_len hc; omega) (by omega) (fun p hp => by have := Pt.chkA_len (Pt.chk_mem hc p hp).2.2.2; omega) r
      have hA : Hid (∀ wx : World, Calls Try.prog 17 #[.string P] wx fun e w' => ∃ v', e = .returned (.tuple #[v', .int .i64 0]) ∧ Below wx.heap.size wx w' ∧ PoS (fun g => wx.heap.size ≤ g) w' v' d) := fun wx => read_ok wx P (by omega) d (by have := hback []; rw [List.append_nil, if_pos rfl] at this; rw [hPd]; exact this)
      have hPM : (P ++ more).data.toList = Pt.bytes d ++ more.data.toList := by rw [ByteArray.data_append, Array.toList_append, hPd]
      have hPMs : (P ++ more).size ≤ 134000000 := by rw [ByteArray.size_append]; omega
      have hno : ¬ 9223372036854775807 < P.size + more.size := by omega
      obtain ⟨Q, hQ⟩ : ∃ Q, P ++ more = Q := ⟨_, rfl⟩
      rw [hQ] at hPM hPMs
      have hsame : Hid (∀ (wx : World) (u : Value) (G : Nat → Prop), PoS G wx u d → Below w.heap.size w wx → Calls Try.prog 16 #[u, v] wx fun e w' => e = .returned (.bool true) ∧ Below wx.heap.size wx w') := fun wx u G hu hb => by
        have h1 := sameP_any wx G F u v d d hu (HP.out.keep hb.size fun g _ hg => hb.block g hg)
        rw [decide_eq_true rfl] at h1
        exact h1
      subst hv
      by_cases hm0 : more.size = 0
      · have hT := empty_true more hm0
        have hB : Hid (∀ wx : World, Calls Try.prog 17 #[.string Q] wx fun e w' => ∃ v', e = .returned (.tuple #[v', .int .i64 0]) ∧ Below wx.heap.size wx w') := fun wx => (read_ok wx Q hPMs d (by rw [hPM, hback, if_pos (List.length_eq_zero_iff.1 (by rw [arr_len]; exact hm0))])).mono fun e w' ⟨v', e1, e2, _⟩ => ⟨v', e1, e2⟩
        clear hback hPM hPMs hP hPd hc hm0 hbl hd
        go_enter Try.func5, Try.ntmps5
        go_wp2_with (first
          | (go_at_call 11; refine hpk.out.mono ?_; rintro e1 w1 ⟨rfl, hb1⟩; have HB1 := Lib.hid hb1; clear hb1 hpk)
          | (go_at_call 13; refine (haw.out _).mono ?_; rintro e1 w2 ⟨rfl, hb2⟩; have HB2 := Lib.hid (HB1.out.trans (hb2.mono HB1.out.size)); clear hb2)
          | (go_at_call 17; refine (hA.out _).mono ?_; rintro e1 w3 ⟨v3, rfl, hb3, hp3⟩; have HB3 := Lib.hid (HB2.out.trans (hb3.mono HB2.out.size)); have HP3 := Lib.hid hp3; clear hb3 hp3 hA)
          | (go_at_call 17; refine (hB.out _).mono ?_; rintro e1 w4 ⟨v4, rfl, hb4⟩; have HB4 := Lib.hid (HB3.out.trans (hb4.mono HB3.out.size)); have HP4 := Lib.hid (HP3.out.below hb4); clear hb4 hB)
          | (go_at_call 16; refine (hsame.out _ _ _ HP4.out HB4.out).mono ?_; rintro e1 w5 ⟨rfl, hb5⟩; have HBY := Lib.hid (HB4.out.trans (hb5.mono HB4.out.size)); clear hb5)
          | (go_at_call 17; refine (hC.out _).mono ?_; rintro e1 w7 ⟨rfl, hb7⟩; have HBZ := Lib.hid (HBY.out.trans (hb7.mono HBY.out.size)); clear hb7))
        go_ret
        exact ⟨rfl, HBZ.out⟩
      · have hT := empty_false more (by omega)
        have hB : Hid (∀ wx : World, Calls Try.prog 17 #[.string Q] wx fun e w' => ∃ v', e = .returned (.tuple #[v', .int .i64 5]) ∧ Below wx.heap.size wx w') := fun wx => (read_no wx Q hPMs 5 (by decide) (by rw [hPM, hback, if_neg (fun e => hm0 (by rw [← arr_len, e]; rfl))])).mono fun e w' ⟨e1, e2⟩ => ⟨_, e1, e2⟩
        clear hback hPM hPMs hP hPd hc hm0 hbl hd
        go_enter Try.func5, Try.ntmps5
        go_wp2_with (first
          | (go_at_call 11; refine hpk.out.mono ?_; rintro e1 w1 ⟨rfl, hb1⟩; have HB1 := Lib.hid hb1; clear hb1 hpk)
          | (go_at_call 13; refine (haw.out _).mono ?_; rintro e1 w2 ⟨rfl, hb2⟩; have HB2 := Lib.hid (HB1.out.trans (hb2.mono HB1.out.size)); clear hb2)
          | (go_at_call 17; refine (hA.out _).mono ?_; rintro e1 w3 ⟨v3, rfl, hb3, hp3⟩; have HB3 := Lib.hid (HB2.out.trans (hb3.mono HB2.out.size)); have HP3 := Lib.hid hp3; clear hb3 hp3 hA)
          | (go_at_call 17; refine (hB.out _).mono ?_; rintro e1 w4 ⟨v4, rfl, hb4⟩; have HB4 := Lib.hid (HB3.out.trans (hb4.mono HB3.out.size)); have HP4 := Lib.hid (HP3.out.below hb4); clear hb4 hB)
          | (go_at_call 16; refine (hsame.out _ _ _ HP4.out HB4.out).mono ?_; rintro e1 w5 ⟨rfl, hb5⟩; have HBY := Lib.hid (HB4.out.trans (hb5.mono HB4.out.size)); clear hb5)
          | (go_at_call 17; refine (hC.out _).mono ?_; rintro e1 w7 ⟨rfl, hb7⟩; have HBZ := Lib.hid (HBY.out.trans (hb7.mono HBY.out.size)); clear hb7))
        go_ret
        exact ⟨rfl, HBZ.out⟩
    · obtain ⟨c, hcc⟩ : ∃ c, c = Pt.chk (-1) d := ⟨_, rfl⟩
      rw [show Pt.pack d = ([], Pt.chk (-1) d) by unfold Pt.pack; rw [if_neg hc], ← hcc] at hpk
      have hcf : ((c : Int) == 0) = false := by rw [hcc]; simpa using hc
      clear hcc hc hd
      subst hv
      go_enter Try.func5, Try.ntmps5
      go_wp2_with (first
        | (go_at_call 11; refine hpk.out.mono ?_; rintro e1 w1 ⟨rfl, hb1⟩; have HB1 := Lib.hid hb1; clear hb1 hpk)
        | (go_at_call 13; refine (haw.out _).mono ?_; rintro e1 w2 ⟨rfl, hb2⟩; have HBY := Lib.hid (HB1.out.trans (hb2.mono HB1.out.size)); clear hb2)
        | (go_at_call 17; refine (hC.out _).mono ?_; rintro e1 w7 ⟨rfl, hb7⟩; have HBZ := Lib.hid (HBY.out.trans (hb7.mono HBY.out.size)); clear hb7))
      go_ret
      exact ⟨rfl, HBZ.out⟩
end Go.Proofs.Ytokdjaljeckghaa
