/-
  Bytes read past their numbers: what bitpack's Read says of them, but for the numbers.
-/
import Derived.Test.YtokdjaljeckghaaPm
namespace Go.Proofs.Ytokdjaljeckghaa
open Go.RowKit
theorem fresh_lt (w : World) (o : Obj) : w.heap.size < (w.alloc o).heap.size := by simp
set_option maxRecDepth 100000 in
set_option maxHeartbeats 4000000 in
theorem skim_any (w : World) (s : ByteArray) (hs : s.size ≤ 1073741000) :
    Calls Try.prog 33 #[.string s] w fun e w' => e = .returned (.tuple #[.slice none 0 0, .int .i64 ((Bp.rdPack s.data.toList).2.1 : Nat), .int .i64 (Bp.rdPack s.data.toList).2.2]) ∧ Below w.heap.size w w' := by
  obtain ⟨l, z, e, hr⟩ : ∃ l z e, Bp.rdPack s.data.toList = (l, z, e) := ⟨_, _, _, rfl⟩
  rw [hr]
  obtain ⟨n0, y0, e0, hw⟩ : ∃ n y e, Pl.rdCount s.data.toList = (n, y, e) := ⟨_, _, _, rfl⟩
  have hcur := at_cur s w 108
  have hcount := Lib.hid (count_any s w.heap.size _ hcur (by omega) n0 y0 e0 hw)
  obtain ⟨⟨b1, b2⟩, ⟨b3, b4⟩, b5, b6⟩ := rdCount_bd _ _ _ _ hw
  rw [arr_len] at b4
  have hbw : Hid (Below w.heap.size w (w.alloc (.cells #[.string s] 108))) := (Below.refl _ _).alloc (Nat.le_refl _) _
  unfold Bp.rdPack at hr
  rw [hw] at hr
  clear hw hcur
  obtain ⟨n, rfl⟩ := Int.eq_ofNat_of_zero_le b1
  obtain ⟨y, rfl⟩ := Int.eq_ofNat_of_zero_le b3
  simp only [Int.toNat_natCast] at hr
  obtain ⟨r0, hr0⟩ : ∃ r0, r0 = rest s (y : Int) := ⟨_, rfl⟩
  have hrd : Hid (r0.data.toList = s.data.toList.drop y) := by show _ = _; rw [hr0, rest_data, Int.toNat_natCast]
  have hrs : r0.size + y = s.size := by
    rw [← arr_len r0, hrd.out, List.length_drop, arr_len]
    omega
  rw [← hr0] at hcount
  clear hr0 b5 b6 b1 b3
  have hst : Hid ((e0 = 0 ∧ Bp.rdCh n n (s.data.toList.drop y) [] y = (l, z, e)) ∨ (e0 ≠ 0 ∧ e = e0 ∧ z = 0)) := by
    by_cases he0 : e0 = 0
    · subst he0
      simp only [ne_eq, not_true, if_false] at hr
      exact .inl ⟨rfl, hr⟩
    · rw [if_pos he0] at hr
      obtain ⟨rfl, rfl, rfl⟩ : [] = l ∧ 0 = z ∧ e0 = e := by simpa using hr
      exact .inr ⟨he0, rfl, rfl⟩
  clear hr
  go_enter Try.func33, Try.ntmps33
  go_wp2_with (first | (go_at_call 47; refine (at_any s _).mono ?_; rintro e1 w1 ⟨rfl, rfl⟩) | (go_at_call 48; refine hcount.out.mono ?_; rintro e1 w2 ⟨rfl, hb2, hc2⟩; have HB2 : Hid (Below w.heap.size w w2) := hbw.out.trans hb2; have HC2 := Lib.hid hc2; clear hb2 hc2) | (go_at_call 50; refine (rest_any r0 _ _ HC2.out).mono ?_; rintro e1 w3 ⟨rfl, rfl⟩))
  go_loopg [4, 6, 7] (n + 1) (fun g ev nv sv wx => Below w.heap.size w wx ∧ ((∃ (k m zz : Nat) (acc : List Nat) (r : ByteArray), ev = .int .i64 0 ∧ nv = .int .i64 m ∧ sv = .string r ∧ g = m + 1 ∧ m ≤ k ∧ m ≤ 9223372036854775807 ∧ r.size + zz = s.size ∧ Hid (r.data.toList = s.data.toList.drop zz) ∧ Hid (Bp.rdCh k m (s.data.toList.drop zz) acc zz = (l, z, e))) ∨ (∃ (x : Int) (m : Nat) (r : ByteArray), ev = .int .i64 x ∧ nv = .int .i64 m ∧ sv = .string r ∧ x ≠ 0 ∧ e = x ∧ z = 0)))
  case atStart =>
    refine ⟨HB2.out, ?_⟩
    rcases hst.out with ⟨rfl, h⟩ | ⟨h1, h2, h3⟩
    · exact .inl ⟨n, n, y, [], r0, rfl, rfl, rfl, rfl, Nat.le_refl _, by omega, hrs, hrd, h⟩
    · exact .inr ⟨e0, n, r0, rfl, rfl, rfl, h1, h2, h3⟩
  case round =>
    clear hst hcount HB2 HC2 hbw
    obtain ⟨hbel, ⟨k, m, zz, acc, r, rfl, rfl, rfl, rfl, hk, hm, hrs, hrd, hE⟩ | ⟨x, m, r, rfl, rfl, rfl, hx, rfl, rfl⟩⟩ := hrel
    · have HBE := Lib.hid hbel
      clear hbel
      by_cases h0 : m = 0
      · subst h0
        have hfin : Hid (zz = z ∧ e = 0) := by
          have h := hE.out
          cases k with
          | zero => simp only [Bp.rdCh] at h; injection h with _ h; injection h with h1 h2; exact ⟨h1, h2.symm⟩
          | succ k => simp only [Bp.rdCh, if_true] at h; injection h with _ h; injection h with h1 h2; exact ⟨h1, h2.symm⟩
        have i1 : ((0 : Nat) : Int) = 0 := rfl
        have e1 : (s.size : Int) - (r.size : Int) = (zz : Int) := by omega
        clear hE hrd hk hrs i1
        go_wp2_with fail
        go_ret3
        obtain ⟨rfl, rfl⟩ := hfin.out
        exact ⟨rfl, HBE.out⟩
      · obtain ⟨k', rfl⟩ : ∃ k', k = k' + 1 := ⟨k - 1, by omega⟩
        obtain ⟨q, hq⟩ : ∃ q, q = Nat.min m 128 := ⟨_, rfl⟩
        have hq2 : q ≤ m ∧ q ≤ 128 ∧ 0 < q := by
          have h1 : q = min m 128 := hq
          omega
        obtain ⟨q1, q2, q3⟩ := hq2
        have hmin : min (m : Int) 128 = (q : Int) := by
          have h1 : q = min m 128 := hq
          omega
        have hpos : (0 : Int) < (m : Int) := by omega
        have hE' := hE.out
        simp only [Bp.rdCh] at hE'
        rw [if_neg h0, ← hq, ← hrd.out] at hE'
        obtain ⟨E, hEE⟩ : ∃ E, E = Pt.ends q r.data.toList := ⟨_, rfl⟩
        have hEl : E ≤ r.size := by
          have := ends_le q r.data.toList
          rw [arr_len] at this
          omega
        have hbe := Lib.hid (fun w => blockEnd_any w q r q2 (by omega))
        rw [← hEE] at hbe
        have hob := Pt.one_block q r.data.toList q3 q2
        rw [← hEE] at hob
        have hbe2 : (Bp.rdBlk q r.data.toList).2.2 = 0 → (Bp.rdBlk q r.data.toList).2.1 = E := fun h => by rw [hEE]; exact Pt.blk_ends q _ h
        obtain ⟨T, hT⟩ : ∃ T : ByteArray, T = ⟨(Pl.numB (q : Int)).toArray⟩ := ⟨_, rfl⟩
        obtain ⟨R, hR⟩ : ∃ R, R = r.extract 0 E := ⟨_, rfl⟩
        have hTR : (T ++ R).data.toList = Pl.numB (q : Int) ++ r.data.toList.take E := by
          rw [ByteArray.data_append, hT, hR, Array.toList_append, Lib.extract_data, List.drop_zero, Nat.sub_zero]
        have hTs : T.size ≤ 9 := by
          have := numB_length (q : Int)
          rw [hT]
          show (Pl.numB (q : Int)).toArray.size ≤ 9
          rw [List.size_toArray]
          exact this
        have hRs : R.size ≤ r.size := by rw [hR, ByteArray.size_extract]; omega
        have hrd8 := read_c
        have HRC := Lib.hid (fun (wx : World) => hrd8 wx (T ++ R) (by rw [ByteArray.size_append]; omega))
        rw [hTR, hob] at HRC
        have hno : ¬ 9223372036854775807 < T.size + R.size := by omega
        have hNL := Lib.hid (nums_len wr.drew q (by omega))
        rw [← hT] at hNL
        have hcut : Hid ((r.extract E r.size).data.toList = s.data.toList.drop (zz + E) ∧ (r.extract E r.size).size + (zz + E) = s.size) := by
          refine ⟨?_, by rw [ByteArray.size_extract]; omega⟩
          have h := rest_data r ((E : Nat) : Int)
          unfold rest at h
          rw [Int.toNat_natCast] at h
          rw [h, hrd.out, List.drop_drop]
        obtain ⟨R2, hR2⟩ : ∃ R2, R2 = r.extract E r.size := ⟨_, rfl⟩
        have HR := Lib.hid hR
        have HR2 := Lib.hid hR2
        rw [← hR2] at hcut
        have HOB := Lib.hid hob
        have HBK := Lib.hid hbe2
        have HE' := Lib.hid hE'
        have HM := Lib.hid hm
        clear hE hE' hob hbe2 hTR hT hR hR2 hEE hrd8 hq
        have hR3 : r.extract 0 E = R := HR.out.symm
        have hR4 : r.extract E r.size = R2 := HR2.out.symm
        have e9 : (m : Int) - (q : Int) = ((m - q : Nat) : Int) := by omega
        have i5 : (E : Int) ≤ (r.size : Int) := by omega
        by_cases hbk : (Bp.rdBlk q r.data.toList).2.2 = 0
        · rw [if_neg (by simpa using hbk)] at HRC
          have hE3 : Hid (Bp.rdCh k' (m - q) (s.data.toList.drop (zz + E)) (acc ++ (Bp.rdBlk q r.data.toList).1) (zz + E) = (l, z, e)) := by
            have h := HE'.out
            rw [if_neg (by simpa using hbk), HBK.out hbk] at h
            show Bp.rdCh _ _ _ _ _ = _
            rw [← List.drop_drop, ← hrd.out]
            exact h
          clear hrd hbk HE' HBK HOB
          generalize acc ++ (Bp.rdBlk q r.data.toList).1 = acc2 at *
          obtain ⟨m2, hm2⟩ : ∃ m2, m2 = m - q := ⟨_, rfl⟩
          rw [← hm2] at e9 hE3
          have hm3 : m2 < m := by omega
          have hm5 : Hid (m2 ≤ 9223372036854775807) := by have := HM.out; show _ ≤ _; omega
          have hm4 : m2 ≤ k' := by omega
          clear hm2
          go_wp2_with (go_at_call 52; refine (hbe.out _).mono ?_; rintro e1 w3 ⟨rfl, rfl⟩)
          go_region_with (first
            | (go_at_call 41; refine hNL.out.mono ?_; rintro e1 w4 ⟨rfl, hb4⟩; have HB4 := Lib.hid hb4; clear hb4)
            | (go_at_call 31; refine (HRC.out _).mono ?_; rintro e1 w5 ⟨v5, rfl, _, hb5⟩; have HB5 := Lib.hid (HBE.out.trans ((below_drew (HB4.out.trans (hb5.mono HB4.out.size))).mono HBE.out.size)); clear hb5))
          all_goals
            go_wp2_with fail
            go_quiet (fail)
            go_wp2_with fail
            go_roundg (m2 + 1)
            case rel => exact ⟨by first | exact HB5.out | exact belowN HB5.out _, .inl ⟨k', m2, zz + E, acc2, R2, rfl, by first | rfl | exact congrArg (Value.int .i64) (IntWalk.i64_in _ (by have := hm5.out; omega)), rfl, rfl, hm4, hm5.out, hcut.out.2, hcut.out.1, hE3.out⟩⟩
            case measure => omega
        · rw [if_pos hbk] at HRC
          have hfin : Hid (e = (Bp.rdBlk q r.data.toList).2.2 ∧ z = 0) := by
            have h := HE'.out
            rw [if_pos hbk] at h
            injection h with _ h
            injection h with h1 h2
            exact ⟨h2.symm, h1.symm⟩
          have hbk2 := Lib.hid hbk
          clear hrd hbk HE' HBK HOB
          generalize (Bp.rdBlk q r.data.toList).2.2 = er at *
          obtain ⟨m2, hm2⟩ : ∃ m2, m2 = m - q := ⟨_, rfl⟩
          rw [← hm2] at e9
          have hm3 : m2 < m := by omega
          have hm5 : Hid (m2 ≤ 9223372036854775807) := by have := HM.out; show _ ≤ _; omega
          clear hm2
          go_wp2_with (go_at_call 52; refine (hbe.out _).mono ?_; rintro e1 w3 ⟨rfl, rfl⟩)
          go_region_with (first
            | (go_at_call 41; refine hNL.out.mono ?_; rintro e1 w4 ⟨rfl, hb4⟩; have HB4 := Lib.hid hb4; clear hb4)
            | (go_at_call 31; refine (HRC.out _).mono ?_; rintro e1 w5 ⟨v5, rfl, _, hb5⟩; have HB5 := Lib.hid (HBE.out.trans ((below_drew (HB4.out.trans (hb5.mono HB4.out.size))).mono HBE.out.size)); clear hb5))
          all_goals
            go_wp2_with fail
            go_quiet (fail)
            go_wp2_with fail
            go_roundg (m2 + 1)
            case rel => exact ⟨by first | exact HB5.out | exact belowN HB5.out _, .inr ⟨er, m2, R2, rfl, by first | rfl | exact congrArg (Value.int .i64) (IntWalk.i64_in _ (by have := hm5.out; omega)), rfl, hbk2.out, hfin.out.1, hfin.out.2⟩⟩
            case measure => omega
    · have hne : (e == 0) = false := by simpa using hx
      have hne2 : (e != 0) = true := by simpa using hx
      have HBE := Lib.hid hbel
      clear hbel hx
      go_wp2_with fail
      go_ret3
      exact ⟨rfl, HBE.out⟩
end Go.Proofs.Ytokdjaljeckghaa
