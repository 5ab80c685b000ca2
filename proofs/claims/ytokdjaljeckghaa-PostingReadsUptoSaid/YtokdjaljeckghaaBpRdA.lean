/-
  What the program's Read answers: the document's numbers, in new memory.
-/
import Derived.Test.YtokdjaljeckghaaBpRdP
import Derived.Test.YtokdjaljeckghaaCur
import Derived.Deep.RegionWith
namespace Go.Proofs.Ytokdjaljeckghaa
open Go.RowKit

theorem rdCh_len : ∀ (k n : Nat) (S : List UInt8) (acc : List Nat) (z : Nat), n ≤ k → (Bp.rdCh k n S acc z).2.2 = 0 → n ≤ 128 * S.length := by
  intro k
  induction k with
  | zero => intro n S acc z hk _; omega
  | succ k ih =>
    intro n S acc z hk h
    simp only [Bp.rdCh] at h
    by_cases h0 : n = 0
    · omega
    · rw [if_neg h0] at h
      obtain ⟨l1, z1, e1, hb⟩ : ∃ l1 z1 e1, Bp.rdBlk (Nat.min n 128) S = (l1, z1, e1) := ⟨_, _, _, rfl⟩
      obtain ⟨_, b2, _, b4⟩ := Bp.rdBlk_bd _ _ _ _ _ hb
      rw [hb] at h
      by_cases he : e1 = 0
      · subst he
        simp only [ne_eq, not_true, if_false] at h
        have hm : Nat.min n 128 = min n 128 := rfl
        have h2 := ih _ _ _ _ (by omega) h
        have h3 := (b4 rfl).2.1
        rw [List.length_drop] at h2
        omega
      · rw [if_pos he] at h
        exact absurd h he
theorem made_own (w : World) (B n : Nat) (hB : B ≤ w.heap.size) (hn : n ≤ 1099511627776) :
    OwnI (w.alloc (.cells (madeCells #[.int .i64 0] n) 3)) B (.slice (some ⟨w.heap.size, 0, none⟩) 0 n) [] :=
  World.ownsRow_made w (madeCells #[.int .i64 0] n) n hB (by unfold maxLen; omega) (by rw [size_madeCells, Nat.mul_one])
theorem makeI (n : Nat) (hn : n ≤ 1099511627776) (w : World) :
    (Instr.makeSlice 38 (.int .i64 0) (.int .i64 (n : Int))).run Try.prog w = .ok (.slice (some ⟨w.heap.size, 0, none⟩) 0 n) (w.alloc (.cells (madeCells #[.int .i64 0] n) 3)) := by
  obtain ⟨ii, hi, hz0, hz1, hz2⟩ := info_parts Try.infoI
  have h := run_make (P := Try.prog) w 38 3 ii (.int .i64 0) Try.underlying38 hi hz0 .i64 .i64 0 (n : Int) (by omega) (by omega) (by rw [hz2]; omega) (by omega)
  rw [hz1, Int.toNat_natCast, Nat.mul_one] at h
  exact h

set_option maxRecDepth 100000 in
set_option maxHeartbeats 4000000 in
theorem read_c : ReadC := by
  intro w s hsz
  obtain ⟨l, z, e, hr⟩ : ∃ l z e, Bp.rdPack s.data.toList = (l, z, e) := ⟨_, _, _, rfl⟩
  rw [hr]
  show Calls _ _ _ _ (ReadPost w.heap.size w l z e)
  obtain ⟨n0, y0, e0, hw⟩ : ∃ n y e, Pl.rdCount s.data.toList = (n, y, e) := ⟨_, _, _, rfl⟩
  have hcur := at_cur s w 108
  have hcount := Lib.hid (count_any s w.heap.size _ hcur (by omega) n0 y0 e0 hw)
  obtain ⟨⟨b1, b2⟩, ⟨b3, b4⟩, b5, b6⟩ := rdCount_bd _ _ _ _ hw
  have hls : s.data.toList.length = s.size := by simp
  rw [hls] at b4
  have hbw : Hid (Below w.heap.size w (w.alloc (.cells #[.string s] 108))) := (Below.refl _ _).alloc (Nat.le_refl _) _
  unfold Bp.rdPack at hr
  rw [hw] at hr
  clear hw hls hcur
  by_cases he0 : e0 = 0
  · subst he0
    simp only [ne_eq, not_true, if_false] at hr
    obtain ⟨n, rfl⟩ := Int.eq_ofNat_of_zero_le b1
    obtain ⟨y, rfl⟩ := Int.eq_ofNat_of_zero_le b3
    simp only [Int.toNat_natCast] at hr
    obtain ⟨r0, hr0⟩ : ∃ r0, r0 = rest s (y : Int) := ⟨_, rfl⟩
    have hrd : r0.data.toList = s.data.toList.drop y := by rw [hr0, rest_data, Int.toNat_natCast]
    have hrs : r0.size + y = s.size := by
      have h1 : r0.size = r0.data.toList.length := by simp
      rw [h1, hrd, List.length_drop]
      simp
      omega
    rw [← hr0] at hcount
    have hck := Lib.hid (fun w => checkBlocks_any r0 n w (by omega) (by omega) _ rfl)
    have hee : (Bp.rdCh n n r0.data.toList [] 0).2.2 = e := by
      rw [hrd, ← rdCh_err n n _ [] y, hr]
    rw [hee] at hck
    have HR := Lib.hid hr
    have HRD := Lib.hid hrd
    by_cases he : e = 0
    · subst he
      have hnl : n ≤ 128 * r0.size := by
        have h1 := rdCh_len n n r0.data.toList [] 0 (Nat.le_refl _) hee
        have h2 : r0.data.toList.length = r0.size := by simp
        rw [h2] at h1
        exact h1
      have hn37 : n ≤ 137438953472 := by omega
      have hmk := makeI n (by omega)
      clear hr hrd hr0 hee b5 b6
      go_enter Try.func31, Try.ntmps31
      go_wp2_with (first | (go_at_call 47; refine (at_any s _).mono ?_; rintro e1 w1 ⟨rfl, rfl⟩) | (go_at_call 48; refine hcount.out.mono ?_; rintro e1 w2 ⟨rfl, hb2, hc2⟩; have HB2 : Hid (Below w.heap.size w w2) := hbw.out.trans hb2; have HC2 := Lib.hid hc2; clear hb2 hc2) | (go_at_call 50; refine (rest_any r0 _ _ HC2.out).mono ?_; rintro e1 w3 ⟨rfl, rfl⟩) | (go_at_call 49; refine (hck.out _).mono ?_; rintro e1 w3 ⟨rfl, rfl⟩))
      have HCd2 : Hid (Cur w2.drew w.heap.size r0) := HC2.out
      have HCd1 : Hid (Cur (w2.alloc (.cells (madeCells #[.int .i64 0] n) 3)).drew w.heap.size r0) := HC2.out.below (((Below.refl w2.heap.size w2).alloc (Nat.le_refl _) _).drew) HC2.out.lt
      have hc3 := Lib.hid (fun (w3 : World) (hc : Cur w3 w.heap.size r0) => rest_any r0 w.heap.size w3 hc)
      go_region_with (go_at_call 50; refine (hc3.out _ (by first | exact HCd1.out | exact HCd2.out)).mono ?_; rintro e1 w3 ⟨rfl, rfl⟩)
      all_goals go_wp2_with fail
      all_goals simp only [Act.put, List.getElem_toArray, List.getElem_cons_succ, List.getElem_cons_zero, List.setIfInBounds_toArray, List.set_cons_succ, List.set_cons_zero]
      all_goals
        have HOL : Hid (OwnI (w2.alloc (.cells (madeCells #[.int .i64 0] n) 3)).drew w.heap.size (.slice (some ⟨w2.heap.size, 0, none⟩) 0 n) []) := (made_own w2 w.heap.size n HB2.out.size (by omega)).keep ((Below.refl _ _).drew) (Nat.le_refl _)
        have HBL : Hid (Below w.heap.size w (w2.alloc (.cells (madeCells #[.int .i64 0] n) 3)).drew) := (HB2.out.alloc HB2.out.size _).drew
        generalize (w2.alloc (.cells (madeCells #[.int .i64 0] n) 3)).drew = w4 at *
        clear hmk hc3 HCd1 HCd2
        go_loopg [2, 8] n (fun g lv sv wx => ∃ (k zz : Nat) (acc : List Nat) (r : ByteArray), g ≤ k ∧ acc.length + g ≤ n ∧ n ≤ acc.length + g ∧ sv = .string r ∧ r.size + zz ≤ s.size ∧ s.size ≤ r.size + zz ∧ Hid (r.data.toList = s.data.toList.drop zz) ∧ Hid (Bp.rdCh k g (s.data.toList.drop zz) acc zz = (l, z, 0)) ∧ OwnI wx w.heap.size lv (acc.map Int.ofNat) ∧ Below w.heap.size w wx)
        case atStart => exact ⟨n, y, [], r0, Nat.le_refl _, by simp, by simp, rfl, by omega, by omega, HRD, HR, HOL.out, HBL.out⟩
        case round =>
          clear HOL HBL HR HRD hrs hnl
          obtain ⟨k, zz, acc, r, hk, ha1, ha2, rfl, hr1, hr2, hrd, hE, hown, hbel⟩ := hrel
          obtain ⟨ad, cp, rfl, hcells⟩ := ownI_cells hown
          rw [List.length_map] at hown ⊢
          by_cases h0 : gk = 0
          · subst h0
            have hfin : acc = l ∧ zz = z := by
              have h := hE.out
              cases k with
              | zero => simpa [Bp.rdCh] using h
              | succ k => simpa [Bp.rdCh] using h
            obtain ⟨rfl, rfl⟩ := hfin
            have i1 : ¬ (acc.length : Int) < (n : Int) := by omega
            have e1 : (s.size : Int) - (r.size : Int) = (zz : Int) := by omega
            have HO := Lib.hid hown
            have HB := Lib.hid hbel
            clear hown hbel hcells hE hrd hk
            generalize acc.length = al at *
            go_wp2_with fail
            go_ret3
            exact ⟨_, rfl, HO.out, HB.out⟩
          · obtain ⟨k', rfl⟩ : ∃ k', k = k' + 1 := ⟨k - 1, by omega⟩
            have i1 : (acc.length : Int) < (n : Int) := by omega
            have e1 : (n : Int) - (acc.length : Int) = (gk : Int) := by omega
            obtain ⟨m, hm⟩ : ∃ m, m = Nat.min gk 128 := ⟨_, rfl⟩
            have hm2 : m ≤ gk ∧ m ≤ 128 ∧ 0 < m := by
              have h1 : m = min gk 128 := hm
              omega
            have hIn := Lib.hid (inBlock_any gk (by omega))
            have hE' := hE.out
            simp only [Bp.rdCh] at hE'
            rw [if_neg h0, ← hm, ← hrd.out] at hE'
            rw [← hm] at hIn
            obtain ⟨m1, m2, m3⟩ := hm2
            have hok : (Bp.rdBlk m r.data.toList).2.2 = 0 := by
              by_cases h : (Bp.rdBlk m r.data.toList).2.2 = 0
              · exact h
              · rw [if_pos h] at hE'
                have := congrArg (fun x => x.2.2) hE'
                exact absurd this h
            obtain ⟨hs0, hc63, hsz1, hrb⟩ := rdBlk_ok m r hok
            rw [hrb] at hE'
            simp only [ne_eq, not_true, if_false] at hE'
            have hlb : (Bp.unpk r[0].toNat m (Pl.num (r.extract 1 (1 + Bp.long r[0].toNat m)).data.toList)).length = m := Bp.unpk_length _ _ _
            have hrbk := Lib.hid (readBlock_any wr w w.heap.size (.slice ad acc.length cp) (acc.map Int.ofNat) r m m2 (by omega) hs0 hc63 hsz1 hown hbel hbel.size (by rw [List.length_map]; omega) _ rfl)
            have hrd2 : Hid ((r.extract (1 + Bp.long r[0].toNat m) r.size).data.toList = s.data.toList.drop (zz + (1 + Bp.long r[0].toNat m))) := by
              show _ = _
              have h := rest_data r ((1 + Bp.long r[0].toNat m : Nat) : Int)
              unfold rest at h
              rw [Int.toNat_natCast] at h
              rw [h, hrd.out, List.drop_drop]
            have hE2 : Hid (Bp.rdCh k' (gk - m) (s.data.toList.drop (zz + (1 + Bp.long r[0].toNat m))) (acc ++ Bp.unpk r[0].toNat m (Pl.num (r.extract 1 (1 + Bp.long r[0].toNat m)).data.toList)) (zz + (1 + Bp.long r[0].toNat m)) = (l, z, 0)) := by
              show _ = _
              rw [← hE', hrd.out, List.drop_drop]
            have hr3 : (r.extract (1 + Bp.long r[0].toNat m) r.size).size + (zz + (1 + Bp.long r[0].toNat m)) ≤ s.size ∧ s.size ≤ (r.extract (1 + Bp.long r[0].toNat m) r.size).size + (zz + (1 + Bp.long r[0].toNat m)) := by
              rw [ByteArray.size_extract]
              omega
            have hal : (acc ++ Bp.unpk r[0].toNat m (Pl.num (r.extract 1 (1 + Bp.long r[0].toNat m)).data.toList)).length = acc.length + m := by rw [List.length_append, hlb]
            rw [← List.map_append] at hrbk
            have HAL := Lib.hid hal
            have HR3 := Lib.hid hr3
            clear hE hE' hok hrb hm hown hbel hcells hrd hlb hal hr3
            generalize acc ++ Bp.unpk r[0].toNat m (Pl.num (r.extract 1 (1 + Bp.long r[0].toNat m)).data.toList) = acc2 at *
            generalize Bp.long r[0].toNat m = L at *
            generalize acc.length = al at *
            go_wp2_with (first | (go_at_call 42; refine (hIn.out _).mono ?_; rintro e1 w3 ⟨rfl, rfl⟩) | (go_at_call 51; refine hrbk.out.mono ?_; rintro e1 w5 ⟨v5, rfl, hown5, hbel5⟩; have HO5 := Lib.hid hown5; have HB5 := Lib.hid hbel5; clear hown5 hbel5))
            go_roundg (gk - m)
            case rel => exact ⟨k', zz + (1 + L), acc2, _, by omega, by have := HAL.out; omega, by have := HAL.out; omega, rfl, HR3.out.1, HR3.out.2, hrd2, hE2, HO5.out, HB5.out⟩
            case measure => omega
    · have hne : ((e : Int) != 0) = true := by simpa using he
      have hle : l = [] ∧ z = 0 := by
        have h := (Bp.rdCh_bd _ _ _ _ _ _ _ _ (Nat.le_refl _) hr).2.1 he
        exact h
      obtain ⟨rfl, rfl⟩ := hle
      clear hr hrd hr0 hee b5 b6 he
      go_enter Try.func31, Try.ntmps31
      go_wp2_with (first | (go_at_call 47; refine (at_any s _).mono ?_; rintro e1 w1 ⟨rfl, rfl⟩) | (go_at_call 48; refine hcount.out.mono ?_; rintro e1 w2 ⟨rfl, hb2, hc2⟩; have HB2 : Hid (Below w.heap.size w w2) := hbw.out.trans hb2; have HC2 := Lib.hid hc2; clear hb2 hc2) | (go_at_call 50; refine (rest_any r0 _ _ HC2.out).mono ?_; rintro e1 w3 ⟨rfl, rfl⟩) | (go_at_call 49; refine (hck.out _).mono ?_; rintro e1 w3 ⟨rfl, rfl⟩))
      go_ret3
      exact ⟨_, rfl, World.ownsRow_nil _ _ _ _, HB2.out⟩
  · rw [if_pos he0] at hr
    obtain ⟨rfl, rfl, rfl⟩ : [] = l ∧ 0 = z ∧ e0 = e := by simpa using hr
    have hne : ((e0 : Int) != 0) = true := by simpa using he0
    clear hr b5 b6 he0
    go_enter Try.func31, Try.ntmps31
    go_wp2_with (first | (go_at_call 47; refine (at_any s _).mono ?_; rintro e1 w1 ⟨rfl, rfl⟩) | (go_at_call 48; refine hcount.out.mono ?_; rintro e1 w2 ⟨rfl, hb2, hc2⟩; have HB2 : Hid (Below w.heap.size w w2) := hbw.out.trans hb2; clear hb2 hc2))
    go_ret3
    exact ⟨_, rfl, World.ownsRow_nil _ _ _ _, HB2.out⟩
end Go.Proofs.Ytokdjaljeckghaa
