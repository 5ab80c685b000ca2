/-
  What the document's own Read answers.
-/
import Derived.Test.YtokdjaljeckghaaBpTake
import Derived.Test.YtokdjaljeckghaaRefAll
import Derived.Deep.RegionWith
namespace Go.Proofs.Ytokdjaljeckghaa
open Go.RowKit

theorem OwnI.ints {w : World} {B : Nat} {v : Value} {l : List Int} (h : OwnI w B v l) (_ : l.length ≤ 140737488355328) : IntS w v l := by
  rcases h.2 with ⟨rfl, h0⟩ | ⟨g, cap, cur, rfl, hg, hh, hnc, hcp, hcs, htake⟩
  · exact ⟨none, 0, by rw [h0], by omega, by omega, fun h => by omega⟩
  · have hown : w.ownsRow B 3 1 (.slice (some ⟨g, 0, none⟩) l.length cap) l.length (intsV l) := h
    refine ⟨_, cap, rfl, hnc, by unfold maxLen at hcp; omega, fun h => ⟨g, 0, rfl, (hown.lt g rfl).2, fun j hj => ?_⟩⟩
    rw [Nat.zero_add, hown.cellAt j (by omega)]
    simp [intsV, hj]
/-- Behind an append of numbers that lie elsewhere. -/
theorem ownI_pushAll {w wr w1 : World} {B : Nat} {v v' : Value} {l r : List Int} (hB : B ≤ wr.heap.size) (h : OwnI wr B v l) (hb : Below B w wr)
    (h1 : w1.ownsRow B 3 1 v' (l.length + r.length) (intsV l ++ intsV r)) (hg : wr.grownBy w1 v.ownBlock) :
    OwnI w1 B v' (l ++ r) ∧ Below B w w1 := by
  have hown : wr.ownsRow B 3 1 v l.length (intsV l) := h
  refine ⟨?_, hb.grown hg hB (fun j hj => (hown.lt j hj).1)⟩
  unfold OwnI
  rw [intsV_append] at h1
  simpa using h1
theorem OwnI.keep {w w' : World} {B B' : Nat} {v : Value} {l : List Int} (h : OwnI w B v l) (hb : Below B' w w') (hB : w.heap.size ≤ B') : OwnI w' B v l := by
  have hown : w.ownsRow B 3 1 v l.length (intsV l) := h
  refine ⟨h.1, ?_⟩
  rcases h.2 with ⟨h1, h2⟩ | ⟨g, cap, cur, h1, hg, hh, hnc, hcp, hcs, htake⟩
  · exact .inl ⟨h1, h2⟩
  · have hlt : g < w.heap.size := (hown.lt g (by rw [h1]; rfl)).2
    exact .inr ⟨g, cap, cur, h1, hg, (hb.block g (Nat.lt_of_lt_of_le hlt hB)).trans hh, hnc, hcp, hcs, htake⟩
theorem chain_d {w w2 w3 : World} (h : Below w.heap.size w w2) (hb : Below w2.drew.heap.size w2.drew w3) : Below w.heap.size w w3 := by
  have h1 : Below w2.heap.size w2 w3 := (Below.refl w2.heap.size w2).drew.trans hb
  exact h.trans (h1.mono h.size)
theorem news_ok {w' : World} {n : Nat} {lb : List Nat} {g : Nat} (hl : lb.length = n) (h : ∀ j (_ : j < n), w'.cell? ⟨g, j, none⟩ = some (.int .i64 ((lb.getD j 0 : Nat) : Int))) :
    ∀ j u, (intsV (lb.map Int.ofNat))[j]? = some u → w'.cell? ((⟨g, 0, none⟩ : Addr).add j) = some u := by
  intro j u hj
  have hjn : j < lb.length := by
    have := (List.getElem?_eq_some_iff.1 hj).1
    simpa [intsV] using this
  rw [Addr.add_lit, Nat.zero_add, h j (by omega), List.getD, List.getElem?_eq_getElem hjn]
  simp [intsV, hjn] at hj
  rw [← hj]
  rfl
/-- What is answered of numbers read. -/
def ReadPost (B : Nat) (w0 : World) (l : List Nat) (z : Nat) (x : Int) (e : Ending) (w' : World) : Prop :=
  ∃ v, e = .returned (.tuple #[v, .int .i64 (z : Int), .int .i64 x]) ∧ OwnI w' B v (l.map Int.ofNat) ∧ Below B w0 w'
theorem long_two (wm : Nat) : (wm + 7) / 8 = if 0 < wm % 8 then wm / 8 + 1 else wm / 8 := by split <;> omega
theorem rdBlk_cons (m : Nat) (s : ByteArray) (z : Nat) (h : z < s.size) (hw : s[z].toNat ≤ 63) (hl : Bp.long s[z].toNat m ≤ s.size - z - 1) :
    Bp.rdBlk m (s.data.toList.drop z) = if Bp.blkB (Bp.unpk s[z].toNat m (Pl.num (s.extract (z + 1) (z + 1 + Bp.long s[z].toNat m)).data.toList)) = (s.extract z (z + 1 + Bp.long s[z].toNat m)).data.toList
      then (Bp.unpk s[z].toNat m (Pl.num (s.extract (z + 1) (z + 1 + Bp.long s[z].toNat m)).data.toList), 1 + Bp.long s[z].toNat m, 0) else ([], 0, 3) := by
  have e1 : (s.extract (z + 1) (z + 1 + Bp.long s[z].toNat m)).data.toList = (s.data.toList.drop (z + 1)).take (Bp.long s[z].toNat m) := by
    rw [Lib.extract_data, Nat.add_sub_cancel_left]
  have e2 : (s.extract z (z + 1 + Bp.long s[z].toNat m)).data.toList = s[z] :: (s.data.toList.drop (z + 1)).take (Bp.long s[z].toNat m) := by
    rw [Lib.extract_data, drop_cons s z h, show z + 1 + Bp.long s[z].toNat m - z = Bp.long s[z].toNat m + 1 from by omega, List.take_succ_cons]
  rw [e1, e2, drop_cons s z h]
  simp only [Bp.rdBlk]
  have hlen : (s.data.toList.drop (z + 1)).length = s.size - z - 1 := by rw [List.length_drop]; simp; omega
  rw [if_neg (by omega), if_neg (by omega)]
  have hT : ((s.data.toList.drop (z + 1)).take (Bp.long s[z].toNat m)).length = Bp.long s[z].toNat m := by rw [List.length_take]; omega
  have hiff := Bp.blk_iff s[z] _ m hw hT
  by_cases hq : Bp.wd (Bp.unpk s[z].toNat m (Pl.num ((s.data.toList.drop (z + 1)).take (Bp.long s[z].toNat m)))) = s[z].toNat ∧ Pl.num ((s.data.toList.drop (z + 1)).take (Bp.long s[z].toNat m)) < 2 ^ (s[z].toNat * m)
  · rw [if_pos hq, if_pos (hiff.2 hq)]
  · rw [if_neg hq, if_neg (fun h => hq (hiff.1 h))]

set_option maxRecDepth 100000 in
set_option maxHeartbeats 4000000 in
theorem readR_any (s : ByteArray) (hsz : s.size ≤ 1073741824) (w : World) (l : List Nat) (z : Nat) (e : Int) (hr : Bp.rdPack s.data.toList = (l, z, e)) :
    Calls Try.prog 35 #[.string s] w (ReadPost w.heap.size w l z e) := by
  obtain ⟨ii, hi, hz0, hz1, hz2⟩ := info_parts Try.infoI
  obtain ⟨n0, y0, e0, hw⟩ : ∃ n y e, Pl.rdCount s.data.toList = (n, y, e) := ⟨_, _, _, rfl⟩
  have hc := Lib.hid (readCountR_any s w (by omega) n0 y0 e0 hw)
  obtain ⟨⟨b1, b2⟩, ⟨b3, b4⟩, b5, b6⟩ := rdCount_bd _ _ _ _ hw
  have hls : s.data.toList.length = s.size := by simp
  rw [hls] at b4
  unfold Bp.rdPack at hr
  rw [hw] at hr
  clear hw hls
  by_cases he0 : e0 = 0
  · subst he0
    simp only [ne_eq, not_true, if_false] at hr
    obtain ⟨n, rfl⟩ := Int.eq_ofNat_of_zero_le b1
    obtain ⟨y, rfl⟩ := Int.eq_ofNat_of_zero_le b3
    simp only [Int.toNat_natCast] at hr
    have HR := Lib.hid hr
    clear hr b5 b6
    go_enter Try.func35, Try.ntmps35
    go_wp2_with (go_at_call 54; refine hc.out.mono ?_; rintro e1 w1 ⟨rfl, hb1⟩; have HB := Lib.hid hb1; clear hb1)
    go_loopg [5, 6, 8] n (fun g nv av v wx => ∃ (n' k zz : Nat) (acc : List Nat), n' = g ∧ n' ≤ k ∧ n' ≤ n ∧ nv = .int .i64 (n' : Int) ∧ av = .int .i64 (zz : Int) ∧ zz ≤ s.size ∧ acc.length ≤ 128 * zz ∧ Hid (Bp.rdCh k n' (s.data.toList.drop zz) acc zz = (l, z, e)) ∧ OwnI wx w.heap.size v (acc.map Int.ofNat) ∧ Below w.heap.size w wx)
    case atStart => exact ⟨n, n, y, [], rfl, Nat.le_refl _, Nat.le_refl _, rfl, rfl, by omega, by simp, HR, World.ownsRow_nil _ _ _ _, HB.out⟩
    case round =>
      clear HR HB hc
      obtain ⟨n', k, zz, acc, rfl, hnk, hnn, rfl, rfl, hzz, hacc, hrd, hown, hbel⟩ := hrel
      have hB := hbel.size
      by_cases h0 : n' = 0
      · have hd := hrd.out
        subst h0
        have hfin : acc = l ∧ zz = z ∧ 0 = e := by
          cases k with
          | zero => simpa [Bp.rdCh] using hd
          | succ k => simpa [Bp.rdCh] using hd
        obtain ⟨rfl, rfl, rfl⟩ := hfin
        have HO := Lib.hid hown
        have HBE := Lib.hid hbel
        clear hd hrd hown hbel
        go_wp2_with fail
        go_ret3
        exact ⟨_, rfl, HO.out, HBE.out⟩
      · obtain ⟨k', rfl⟩ : ∃ k', k = k' + 1 := ⟨k - 1, by omega⟩
        have hd := hrd.out
        simp only [Bp.rdCh] at hd
        rw [if_neg h0] at hd
        obtain ⟨m, hm⟩ : ∃ m, m = Nat.min n' 128 := ⟨_, rfl⟩
        have hm1 : m = if 128 < n' then 128 else n' := by
          rw [hm]
          split
          · exact Nat.min_eq_right (by omega)
          · exact Nat.min_eq_left (by omega)
        rw [← hm] at hd
        have hm2 : 1 ≤ m ∧ m ≤ 128 ∧ m ≤ n' := by split at hm1 <;> omega
        have HO := Lib.hid hown
        have HBE := Lib.hid hbel
        have n1 : (0 : Int) < (n' : Int) := by omega
        clear hrd hown hbel hm
        by_cases hzs : zz < s.size
        · have hwb : s[zz].toNat < 256 := s[zz].toNat_lt
          have z1 : (zz : Int) < (s.size : Int) := by omega
          have z2 : (0 : Int) ≤ (zz : Int) := by omega
          by_cases hW : s[zz].toNat ≤ 63
          · obtain ⟨wm, hwm⟩ : ∃ wm, wm = s[zz].toNat * m := ⟨_, rfl⟩
            have hwm2 : wm ≤ 8064 := by rw [hwm]; exact Nat.mul_le_mul hW hm2.2.1
            obtain ⟨L, hL⟩ : ∃ L, L = Bp.long s[zz].toNat m := ⟨_, rfl⟩
            have hL2 : L = (wm + 7) / 8 := by rw [hL, hwm]; rfl
            obtain ⟨mi, hmi⟩ : ∃ mi : Int, mi = (m : Int) := ⟨_, rfl⟩
            have hmul : (s[zz].toNat : Int) * mi = (wm : Int) := by rw [hmi, hwm]; simp
            have d1 : (wm : Int).tdiv 8 = ((wm / 8 : Nat) : Int) := by rw [Int.tdiv_eq_ediv_of_nonneg (by omega)]; omega
            have d2 : (wm : Int) / 8 = ((wm / 8 : Nat) : Int) := by omega
            have d3 : (wm : Int).tmod 8 = ((wm % 8 : Nat) : Int) := by rw [Int.tmod_eq_emod_of_nonneg (by omega)]; omega
            have d4 : (wm : Int) % 8 = ((wm % 8 : Nat) : Int) := by omega
            have hW2 : ¬ (63 : Int) < (s[zz].toNat : Int) := by omega
            by_cases hlg : L ≤ s.size - zz - 1
            · have hb := rdBlk_cons m s zz hzs hW (by rw [← hL]; exact hlg)
              rw [← hL] at hb
              obtain ⟨sub, hsub⟩ : ∃ sub, s.extract (zz + 1) (zz + 1 + L) = sub := ⟨_, rfl⟩
              obtain ⟨cut, hcut⟩ : ∃ cut, s.extract zz (zz + 1 + L) = cut := ⟨_, rfl⟩
              have hsubz : sub.size = L := by rw [← hsub, ByteArray.size_extract]; omega
              rw [hsub, hcut] at hb
              have HT : Hid (∀ w', Calls Try.prog 55 #[.string sub, .int .i64 s[zz].toNat, .int .i64 mi] w' fun e' w'' => e' = .returned (.slice (some ⟨w'.heap.size, 0, none⟩) m m) ∧ Tk w' w'' m (fun j => Pl.num sub.data.toList / 2 ^ (s[zz].toNat * j) % 2 ^ s[zz].toNat)) := fun w' => by
                rw [hmi]
                exact takeR_any w' sub s[zz].toNat m hW hm2.2.1 (by rw [hsubz, hL])
              obtain ⟨lb, hlb⟩ : ∃ lb, Bp.unpk s[zz].toNat m (Pl.num sub.data.toList) = lb := ⟨_, rfl⟩
              have hlbl : lb.length = m := by rw [← hlb]; exact Bp.unpk_length _ _ _
              have hlb63 : ∀ x ∈ lb, x < 9223372036854775808 := by
                rw [← hlb]
                intro x hx
                exact Nat.lt_of_lt_of_le (Bp.unpk_lt _ _ _ x hx) (by simpa using Nat.pow_le_pow_right (n := 2) (by omega) hW)
              have HBl : Hid (∀ w' w'', Tk w' w'' m (fun j => Pl.num sub.data.toList / 2 ^ (s[zz].toNat * j) % 2 ^ s[zz].toNat) → Calls Try.prog 46 #[.slice (some ⟨w'.heap.size, 0, none⟩) m m] w'' (StrPost w''.heap.size w'' (Bp.blkB lb))) := fun w' w'' h => by
                refine blockR3_any w'' w'.heap.size 0 m m lb hlbl hm2.2.1 h.row.lt ?_ hlb63
                intro j hj
                rw [Nat.zero_add, h.row.cell (by omega)]
                have e1 : lb[j] = Pl.num sub.data.toList / 2 ^ (s[zz].toNat * j) % 2 ^ s[zz].toNat := by
                  simp only [← hlb]
                  exact Bp.unpk_get _ _ _ _ _
                rw [e1]
              rw [hlb] at hb
              by_cases hcan : Bp.blkB lb = cut.data.toList
              · rw [if_pos hcan] at hb
                rw [hb] at hd
                simp only [ne_eq, not_true, if_false] at hd
                have hq' : (Bp.blkB lb == cut.toList) = true := by rw [ByteArray.toList_eq, hcan]; simp
                have HD : Hid (Bp.rdCh k' (n' - m) (s.data.toList.drop (zz + (1 + L))) (acc ++ lb) (zz + (1 + L)) = (l, z, e)) := by
                  show _ = _
                  rw [← hd, List.drop_drop]
                clear hd hb hcan hL hwm
                by_cases hrem : 0 < wm % 8
                · by_cases hbig : 128 < n'
                  · exfalso
                    obtain rfl : m = 128 := by rw [hm1, if_pos hbig]
                    rw [hmi] at hmul
                    omega
                  · obtain rfl : m = n' := by rw [hm1, if_neg hbig]
                    subst hmi
                    have hbig2 : ¬ (128 : Int) < (m : Int) := by omega
                    have hrem2 : (0 : Int) < ((wm % 8 : Nat) : Int) := by omega
                    have e0 : ((wm / 8 : Nat) : Int) + 1 = (L : Int) := by omega
                    clear hm1 hbig hrem hL2
                    generalize wm / 8 = L1 at *
                    generalize wm % 8 = R1 at *
                    go_wp2_with fail
                    refine (HT.out _).mono ?_
                    rintro e1 w2 ⟨rfl, hT⟩
                    have HTD : Hid (Tk wr w2.drew _ (fun j => Pl.num sub.data.toList / 2 ^ (s[zz].toNat * j) % 2 ^ s[zz].toNat)) := ⟨hT.since.drew, hT.row.drew⟩
                    have HTK := Lib.hid hT
                    clear hT
                    go_wp2_with fail
                    have q1 : IntKind.i64.wrap ((zz : Int) + 1) = (zz : Int) + 1 := IntWalk.i64_in _ (by omega)
                    have q2 : IntKind.i64.wrap ((zz : Int) + 1 + (L : Int)) = (zz : Int) + 1 + (L : Int) := IntWalk.i64_in _ (by omega)
                    have q3 : ((zz : Int) + 1 + (L : Int)).toNat = zz + 1 + L := by omega
                    have q4 : (0 : Int) ≤ (zz : Int) + 1 + (L : Int) := by omega
                    have q5 : (zz : Int) ≤ (zz : Int) + 1 + (L : Int) := by omega
                    have q6 : (zz : Int) + 1 + (L : Int) ≤ (s.size : Int) := by omega
                    go_region_with (go_at_call 46; refine (HBl.out _ _ HTD.out).mono ?_; rintro e1 w3 ⟨rfl, hb3⟩)
                    have hb23 : Below w2.heap.size w2 w3 := (Below.refl w2.heap.size w2).drew.trans hb3
                    have hTB : Below wr.heap.size wr w2 := HTK.out.since
                    have hwr3 : Below wr.heap.size wr w3 := hTB.trans (hb23.mono hTB.size)
                    have hown3 : OwnI w3 w.heap.size u8 (acc.map Int.ofNat) := HO.out.keep hwr3 (Nat.le_refl _)
                    have hbel3 : Below w.heap.size w w3 := HBE.out.trans (hwr3.mono HBE.out.size)
                    have hB3 : w.heap.size ≤ w3.heap.size := hbel3.size
                    have A2 : ∀ j u, (intsV (lb.map Int.ofNat))[j]? = some u → w3.cell? ((⟨wr.heap.size, 0, none⟩ : Addr).add j) = some u := by
                      refine news_ok hlbl fun j hj => ?_
                      rw [hb23.cell (p := ⟨wr.heap.size, j, none⟩) HTK.out.row.lt, HTK.out.row.cell hj]
                      rw [List.getD, List.getElem?_eq_getElem (by omega)]
                      have e1 : lb[j] = Pl.num sub.data.toList / 2 ^ (s[zz].toNat * j) % 2 ^ s[zz].toNat := by
                        simp only [← hlb]
                        exact Bp.unpk_get _ _ _ _ _
                      simp only [Option.getD_some, e1]
                    have A1 : (intsV (lb.map Int.ofNat)).length = m * 1 := by rw [intsV_length, List.length_map, hlbl, Nat.mul_one]
                    have A3 : ∀ u ∈ intsV (lb.map Int.ofNat), u.oneCell' = true := by
                      intro u hu
                      obtain ⟨x, _, rfl⟩ := List.mem_map.1 hu
                      rfl
                    have hal : (acc.map Int.ofNat).length ≤ 137438953472 := by rw [List.length_map]; omega
                    have A4 : (acc.map Int.ofNat).length + m ≤ maxLen := by unfold maxLen; omega
                    have A5 : ((acc.map Int.ofNat).length + m) * 8 ≤ 140737488355328 := by omega
                    have hgl : (lb.map Int.ofNat).length = m := by rw [List.length_map, hlbl]
                    have hzL : zz + (1 + L) ≤ s.size := by omega
                    have ha2 : (acc ++ lb).length ≤ 128 * (zz + (1 + L)) := by rw [List.length_append]; omega
                    have HA := Lib.hid (And.intro hown3 hbel3)
                    have HAL := Lib.hid (And.intro A1 (And.intro A2 A3))
                    have HA4 := Lib.hid (And.intro A4 (And.intro A5 hgl))
                    clear hb23 hTB hwr3 hown3 hbel3 A1 A2 A3 hlb HT HBl HTD HTK hb3 HO HBE hal A4 A5 hgl q1 q2 q3 q4 q5 q6 hq'
                    have hmap : Hid ((acc ++ lb).map Int.ofNat = acc.map Int.ofNat ++ lb.map Int.ofNat) := List.map_append
                    generalize acc.map Int.ofNat = accI at *
                    generalize lb.map Int.ofNat = lbI at *
                    go_wp2_with (at_builtin; refine wpList_append_own _ rfl _ _ 38 rfl w.heap.size 3 ii (.int .i64 0) 1 8 Try.underlying38 hi hz0 hz1 hz2 rfl (by decide) _ _ _ rfl HA.out.1 ⟨wr.heap.size, 0, none⟩ m m (intsV lbI) rfl HAL.out.1 HAL.out.2.1 HAL.out.2.2 HA4.out.1 HA4.out.2.1 hB3 ?_; intro v' w4 hown4 hgrow4 _)
                    have R := ownI_pushAll (r := lbI) hB3 HA.out.1 HA.out.2 (by rw [HA4.out.2.2]; exact hown4) hgrow4
                    rw [← hmap.out] at R
                    obtain ⟨R1, R2⟩ := R
                    have HR1 := Lib.hid R1
                    have HR2 := Lib.hid R2
                    clear hown4 hgrow4 R1 R2 HA HAL HA4 hmap hB3
                    go_wp2
                    go_roundg (m - m)
                    case rel => exact ⟨m - m, k', zz + (1 + L), acc ++ lb, rfl, by omega, by omega, by first | go_num | simp, by first | go_num | simp, hzL, ha2, HD, HR1.out, HR2.out⟩
                    case measure => omega
                · have e0 : ((wm / 8 : Nat) : Int) = (L : Int) := by omega
                  have hrem2 : ((wm % 8 : Nat) : Int) = 0 := by omega
                  rw [e0] at d1 d2
                  rw [hrem2] at d3 d4
                  by_cases hbig : 128 < n'
                  · obtain rfl : m = 128 := by rw [hm1, if_pos hbig]
                    have hmi2 : mi = 128 := hmi
                    clear hmi
                    subst hmi2
                    have hbig2 : (128 : Int) < (n' : Int) := by omega
                    clear hm1 hbig hrem hL2 e0 hrem2
                    go_wp2_with fail
                    refine (HT.out _).mono ?_
                    rintro e1 w2 ⟨rfl, hT⟩
                    have HTD : Hid (Tk wr w2.drew _ (fun j => Pl.num sub.data.toList / 2 ^ (s[zz].toNat * j) % 2 ^ s[zz].toNat)) := ⟨hT.since.drew, hT.row.drew⟩
                    have HTK := Lib.hid hT
                    clear hT
                    go_wp2_with fail
                    have q1 : IntKind.i64.wrap ((zz : Int) + 1) = (zz : Int) + 1 := IntWalk.i64_in _ (by omega)
                    have q2 : IntKind.i64.wrap ((zz : Int) + 1 + (L : Int)) = (zz : Int) + 1 + (L : Int) := IntWalk.i64_in _ (by omega)
                    have q3 : ((zz : Int) + 1 + (L : Int)).toNat = zz + 1 + L := by omega
                    have q4 : (0 : Int) ≤ (zz : Int) + 1 + (L : Int) := by omega
                    have q5 : (zz : Int) ≤ (zz : Int) + 1 + (L : Int) := by omega
                    have q6 : (zz : Int) + 1 + (L : Int) ≤ (s.size : Int) := by omega
                    go_region_with (go_at_call 46; refine (HBl.out _ _ HTD.out).mono ?_; rintro e1 w3 ⟨rfl, hb3⟩)
                    have hb23 : Below w2.heap.size w2 w3 := (Below.refl w2.heap.size w2).drew.trans hb3
                    have hTB : Below wr.heap.size wr w2 := HTK.out.since
                    have hwr3 : Below wr.heap.size wr w3 := hTB.trans (hb23.mono hTB.size)
                    have hown3 : OwnI w3 w.heap.size u8 (acc.map Int.ofNat) := HO.out.keep hwr3 (Nat.le_refl _)
                    have hbel3 : Below w.heap.size w w3 := HBE.out.trans (hwr3.mono HBE.out.size)
                    have hB3 : w.heap.size ≤ w3.heap.size := hbel3.size
                    have A2 : ∀ j u, (intsV (lb.map Int.ofNat))[j]? = some u → w3.cell? ((⟨wr.heap.size, 0, none⟩ : Addr).add j) = some u := by
                      refine news_ok hlbl fun j hj => ?_
                      rw [hb23.cell (p := ⟨wr.heap.size, j, none⟩) HTK.out.row.lt, HTK.out.row.cell hj]
                      rw [List.getD, List.getElem?_eq_getElem (by omega)]
                      have e1 : lb[j] = Pl.num sub.data.toList / 2 ^ (s[zz].toNat * j) % 2 ^ s[zz].toNat := by
                        simp only [← hlb]
                        exact Bp.unpk_get _ _ _ _ _
                      simp only [Option.getD_some, e1]
                    have A1 : (intsV (lb.map Int.ofNat)).length = 128 * 1 := by rw [intsV_length, List.length_map, hlbl, Nat.mul_one]
                    have A3 : ∀ u ∈ intsV (lb.map Int.ofNat), u.oneCell' = true := by
                      intro u hu
                      obtain ⟨x, _, rfl⟩ := List.mem_map.1 hu
                      rfl
                    have hal : (acc.map Int.ofNat).length ≤ 137438953472 := by rw [List.length_map]; omega
                    have A4 : (acc.map Int.ofNat).length + 128 ≤ maxLen := by unfold maxLen; omega
                    have A5 : ((acc.map Int.ofNat).length + 128) * 8 ≤ 140737488355328 := by omega
                    have hgl : (lb.map Int.ofNat).length = 128 := by rw [List.length_map, hlbl]
                    have hzL : zz + (1 + L) ≤ s.size := by omega
                    have ha2 : (acc ++ lb).length ≤ 128 * (zz + (1 + L)) := by rw [List.length_append]; omega
                    have HA := Lib.hid (And.intro hown3 hbel3)
                    have HAL := Lib.hid (And.intro A1 (And.intro A2 A3))
                    have HA4 := Lib.hid (And.intro A4 (And.intro A5 hgl))
                    clear hb23 hTB hwr3 hown3 hbel3 A1 A2 A3 hlb HT HBl HTD HTK hb3 HO HBE hal A4 A5 hgl q1 q2 q3 q4 q5 q6 hq'
                    have hmap : Hid ((acc ++ lb).map Int.ofNat = acc.map Int.ofNat ++ lb.map Int.ofNat) := List.map_append
                    generalize acc.map Int.ofNat = accI at *
                    generalize lb.map Int.ofNat = lbI at *
                    go_wp2_with (at_builtin; refine wpList_append_own _ rfl _ _ 38 rfl w.heap.size 3 ii (.int .i64 0) 1 8 Try.underlying38 hi hz0 hz1 hz2 rfl (by decide) _ _ _ rfl HA.out.1 ⟨wr.heap.size, 0, none⟩ 128 128 (intsV lbI) rfl HAL.out.1 HAL.out.2.1 HAL.out.2.2 HA4.out.1 HA4.out.2.1 hB3 ?_; intro v' w4 hown4 hgrow4 _)
                    have R := ownI_pushAll (r := lbI) hB3 HA.out.1 HA.out.2 (by rw [HA4.out.2.2]; exact hown4) hgrow4
                    rw [← hmap.out] at R
                    obtain ⟨R1, R2⟩ := R
                    have HR1 := Lib.hid R1
                    have HR2 := Lib.hid R2
                    clear hown4 hgrow4 R1 R2 HA HAL HA4 hmap hB3
                    go_wp2
                    go_roundg (n' - 128)
                    case rel => exact ⟨n' - 128, k', zz + (1 + L), acc ++ lb, rfl, by omega, by omega, by first | go_num | simp, by first | go_num | simp, hzL, ha2, HD, HR1.out, HR2.out⟩
                    case measure => omega
                  · obtain rfl : m = n' := by rw [hm1, if_neg hbig]
                    subst hmi
                    have hbig2 : ¬ (128 : Int) < (m : Int) := by omega
                    clear hm1 hbig hrem hL2 e0 hrem2
                    go_wp2_with fail
                    refine (HT.out _).mono ?_
                    rintro e1 w2 ⟨rfl, hT⟩
                    have HTD : Hid (Tk wr w2.drew _ (fun j => Pl.num sub.data.toList / 2 ^ (s[zz].toNat * j) % 2 ^ s[zz].toNat)) := ⟨hT.since.drew, hT.row.drew⟩
                    have HTK := Lib.hid hT
                    clear hT
                    go_wp2_with fail
                    have q1 : IntKind.i64.wrap ((zz : Int) + 1) = (zz : Int) + 1 := IntWalk.i64_in _ (by omega)
                    have q2 : IntKind.i64.wrap ((zz : Int) + 1 + (L : Int)) = (zz : Int) + 1 + (L : Int) := IntWalk.i64_in _ (by omega)
                    have q3 : ((zz : Int) + 1 + (L : Int)).toNat = zz + 1 + L := by omega
                    have q4 : (0 : Int) ≤ (zz : Int) + 1 + (L : Int) := by omega
                    have q5 : (zz : Int) ≤ (zz : Int) + 1 + (L : Int) := by omega
                    have q6 : (zz : Int) + 1 + (L : Int) ≤ (s.size : Int) := by omega
                    go_region_with (go_at_call 46; refine (HBl.out _ _ HTD.out).mono ?_; rintro e1 w3 ⟨rfl, hb3⟩)
                    have hb23 : Below w2.heap.size w2 w3 := (Below.refl w2.heap.size w2).drew.trans hb3
                    have hTB : Below wr.heap.size wr w2 := HTK.out.since
                    have hwr3 : Below wr.heap.size wr w3 := hTB.trans (hb23.mono hTB.size)
                    have hown3 : OwnI w3 w.heap.size u8 (acc.map Int.ofNat) := HO.out.keep hwr3 (Nat.le_refl _)
                    have hbel3 : Below w.heap.size w w3 := HBE.out.trans (hwr3.mono HBE.out.size)
                    have hB3 : w.heap.size ≤ w3.heap.size := hbel3.size
                    have A2 : ∀ j u, (intsV (lb.map Int.ofNat))[j]? = some u → w3.cell? ((⟨wr.heap.size, 0, none⟩ : Addr).add j) = some u := by
                      refine news_ok hlbl fun j hj => ?_
                      rw [hb23.cell (p := ⟨wr.heap.size, j, none⟩) HTK.out.row.lt, HTK.out.row.cell hj]
                      rw [List.getD, List.getElem?_eq_getElem (by omega)]
                      have e1 : lb[j] = Pl.num sub.data.toList / 2 ^ (s[zz].toNat * j) % 2 ^ s[zz].toNat := by
                        simp only [← hlb]
                        exact Bp.unpk_get _ _ _ _ _
                      simp only [Option.getD_some, e1]
                    have A1 : (intsV (lb.map Int.ofNat)).length = m * 1 := by rw [intsV_length, List.length_map, hlbl, Nat.mul_one]
                    have A3 : ∀ u ∈ intsV (lb.map Int.ofNat), u.oneCell' = true := by
                      intro u hu
                      obtain ⟨x, _, rfl⟩ := List.mem_map.1 hu
                      rfl
                    have hal : (acc.map Int.ofNat).length ≤ 137438953472 := by rw [List.length_map]; omega
                    have A4 : (acc.map Int.ofNat).length + m ≤ maxLen := by unfold maxLen; omega
                    have A5 : ((acc.map Int.ofNat).length + m) * 8 ≤ 140737488355328 := by omega
                    have hgl : (lb.map Int.ofNat).length = m := by rw [List.length_map, hlbl]
                    have hzL : zz + (1 + L) ≤ s.size := by omega
                    have ha2 : (acc ++ lb).length ≤ 128 * (zz + (1 + L)) := by rw [List.length_append]; omega
                    have HA := Lib.hid (And.intro hown3 hbel3)
                    have HAL := Lib.hid (And.intro A1 (And.intro A2 A3))
                    have HA4 := Lib.hid (And.intro A4 (And.intro A5 hgl))
                    clear hb23 hTB hwr3 hown3 hbel3 A1 A2 A3 hlb HT HBl HTD HTK hb3 HO HBE hal A4 A5 hgl q1 q2 q3 q4 q5 q6 hq'
                    have hmap : Hid ((acc ++ lb).map Int.ofNat = acc.map Int.ofNat ++ lb.map Int.ofNat) := List.map_append
                    generalize acc.map Int.ofNat = accI at *
                    generalize lb.map Int.ofNat = lbI at *
                    go_wp2_with (at_builtin; refine wpList_append_own _ rfl _ _ 38 rfl w.heap.size 3 ii (.int .i64 0) 1 8 Try.underlying38 hi hz0 hz1 hz2 rfl (by decide) _ _ _ rfl HA.out.1 ⟨wr.heap.size, 0, none⟩ m m (intsV lbI) rfl HAL.out.1 HAL.out.2.1 HAL.out.2.2 HA4.out.1 HA4.out.2.1 hB3 ?_; intro v' w4 hown4 hgrow4 _)
                    have R := ownI_pushAll (r := lbI) hB3 HA.out.1 HA.out.2 (by rw [HA4.out.2.2]; exact hown4) hgrow4
                    rw [← hmap.out] at R
                    obtain ⟨R1, R2⟩ := R
                    have HR1 := Lib.hid R1
                    have HR2 := Lib.hid R2
                    clear hown4 hgrow4 R1 R2 HA HAL HA4 hmap hB3
                    go_wp2
                    go_roundg (m - m)
                    case rel => exact ⟨m - m, k', zz + (1 + L), acc ++ lb, rfl, by omega, by omega, by first | go_num | simp, by first | go_num | simp, hzL, ha2, HD, HR1.out, HR2.out⟩
                    case measure => omega
              · rw [if_neg hcan] at hb
                rw [hb] at hd
                obtain ⟨rfl, rfl, rfl⟩ : [] = l ∧ 0 = z ∧ 3 = e := by simpa using hd
                have hq' : (Bp.blkB lb == cut.toList) = false := by rw [ByteArray.toList_eq]; simpa using hcan
                clear hd hb hcan hlb hL hwm HO hlb63
                by_cases hrem : 0 < wm % 8
                · by_cases hbig : 128 < n'
                  · exfalso
                    obtain rfl : m = 128 := by rw [hm1, if_pos hbig]
                    rw [hmi] at hmul
                    omega
                  · obtain rfl : m = n' := by rw [hm1, if_neg hbig]
                    subst hmi
                    have hbig2 : ¬ (128 : Int) < (m : Int) := by omega
                    have hrem2 : (0 : Int) < ((wm % 8 : Nat) : Int) := by omega
                    have e0 : ((wm / 8 : Nat) : Int) + 1 = (L : Int) := by omega
                    clear hm1 hbig hrem hL2
                    generalize wm / 8 = L1 at *
                    generalize wm % 8 = R1 at *
                    go_wp2_with fail
                    refine (HT.out _).mono ?_
                    rintro e1 w2 ⟨rfl, hT⟩
                    have HTD : Hid (Tk wr w2.drew _ (fun j => Pl.num sub.data.toList / 2 ^ (s[zz].toNat * j) % 2 ^ s[zz].toNat)) := ⟨hT.since.drew, hT.row.drew⟩
                    have HTK := Lib.hid hT
                    clear hT
                    go_wp2_with fail
                    have q1 : IntKind.i64.wrap ((zz : Int) + 1) = (zz : Int) + 1 := IntWalk.i64_in _ (by omega)
                    have q2 : IntKind.i64.wrap ((zz : Int) + 1 + (L : Int)) = (zz : Int) + 1 + (L : Int) := IntWalk.i64_in _ (by omega)
                    have q3 : ((zz : Int) + 1 + (L : Int)).toNat = zz + 1 + L := by omega
                    have q4 : (0 : Int) ≤ (zz : Int) + 1 + (L : Int) := by omega
                    have q5 : (zz : Int) ≤ (zz : Int) + 1 + (L : Int) := by omega
                    have q6 : (zz : Int) + 1 + (L : Int) ≤ (s.size : Int) := by omega
                    go_region_with (go_at_call 46; refine (HBl.out _ _ HTD.out).mono ?_; rintro e1 w3 ⟨rfl, hb3⟩)
                    have HF : Hid (Below w.heap.size w w3) := by
                      have hb23 : Below w2.heap.size w2 w3 := (Below.refl w2.heap.size w2).drew.trans hb3
                      have hwr3 : Below wr.heap.size wr w3 := HTK.out.since.trans (hb23.mono HTK.out.since.size)
                      exact HBE.out.trans (hwr3.mono HBE.out.size)
                    clear hb3
                    go_wp2
                    go_ret3
                    exact ⟨_, rfl, World.ownsRow_nil _ _ _ _, HF.out⟩
                · have e0 : ((wm / 8 : Nat) : Int) = (L : Int) := by omega
                  have hrem2 : ((wm % 8 : Nat) : Int) = 0 := by omega
                  rw [e0] at d1 d2
                  rw [hrem2] at d3 d4
                  by_cases hbig : 128 < n'
                  · obtain rfl : m = 128 := by rw [hm1, if_pos hbig]
                    have hmi2 : mi = 128 := hmi
                    clear hmi
                    subst hmi2
                    have hbig2 : (128 : Int) < (n' : Int) := by omega
                    clear hm1 hbig hrem hL2 e0 hrem2
                    go_wp2_with fail
                    refine (HT.out _).mono ?_
                    rintro e1 w2 ⟨rfl, hT⟩
                    have HTD : Hid (Tk wr w2.drew _ (fun j => Pl.num sub.data.toList / 2 ^ (s[zz].toNat * j) % 2 ^ s[zz].toNat)) := ⟨hT.since.drew, hT.row.drew⟩
                    have HTK := Lib.hid hT
                    clear hT
                    go_wp2_with fail
                    have q1 : IntKind.i64.wrap ((zz : Int) + 1) = (zz : Int) + 1 := IntWalk.i64_in _ (by omega)
                    have q2 : IntKind.i64.wrap ((zz : Int) + 1 + (L : Int)) = (zz : Int) + 1 + (L : Int) := IntWalk.i64_in _ (by omega)
                    have q3 : ((zz : Int) + 1 + (L : Int)).toNat = zz + 1 + L := by omega
                    have q4 : (0 : Int) ≤ (zz : Int) + 1 + (L : Int) := by omega
                    have q5 : (zz : Int) ≤ (zz : Int) + 1 + (L : Int) := by omega
                    have q6 : (zz : Int) + 1 + (L : Int) ≤ (s.size : Int) := by omega
                    go_region_with (go_at_call 46; refine (HBl.out _ _ HTD.out).mono ?_; rintro e1 w3 ⟨rfl, hb3⟩)
                    have HF : Hid (Below w.heap.size w w3) := by
                      have hb23 : Below w2.heap.size w2 w3 := (Below.refl w2.heap.size w2).drew.trans hb3
                      have hwr3 : Below wr.heap.size wr w3 := HTK.out.since.trans (hb23.mono HTK.out.since.size)
                      exact HBE.out.trans (hwr3.mono HBE.out.size)
                    clear hb3
                    go_wp2
                    go_ret3
                    exact ⟨_, rfl, World.ownsRow_nil _ _ _ _, HF.out⟩
                  · obtain rfl : m = n' := by rw [hm1, if_neg hbig]
                    subst hmi
                    have hbig2 : ¬ (128 : Int) < (m : Int) := by omega
                    clear hm1 hbig hrem hL2 e0 hrem2
                    go_wp2_with fail
                    refine (HT.out _).mono ?_
                    rintro e1 w2 ⟨rfl, hT⟩
                    have HTD : Hid (Tk wr w2.drew _ (fun j => Pl.num sub.data.toList / 2 ^ (s[zz].toNat * j) % 2 ^ s[zz].toNat)) := ⟨hT.since.drew, hT.row.drew⟩
                    have HTK := Lib.hid hT
                    clear hT
                    go_wp2_with fail
                    have q1 : IntKind.i64.wrap ((zz : Int) + 1) = (zz : Int) + 1 := IntWalk.i64_in _ (by omega)
                    have q2 : IntKind.i64.wrap ((zz : Int) + 1 + (L : Int)) = (zz : Int) + 1 + (L : Int) := IntWalk.i64_in _ (by omega)
                    have q3 : ((zz : Int) + 1 + (L : Int)).toNat = zz + 1 + L := by omega
                    have q4 : (0 : Int) ≤ (zz : Int) + 1 + (L : Int) := by omega
                    have q5 : (zz : Int) ≤ (zz : Int) + 1 + (L : Int) := by omega
                    have q6 : (zz : Int) + 1 + (L : Int) ≤ (s.size : Int) := by omega
                    go_region_with (go_at_call 46; refine (HBl.out _ _ HTD.out).mono ?_; rintro e1 w3 ⟨rfl, hb3⟩)
                    have HF : Hid (Below w.heap.size w w3) := by
                      have hb23 : Below w2.heap.size w2 w3 := (Below.refl w2.heap.size w2).drew.trans hb3
                      have hwr3 : Below wr.heap.size wr w3 := HTK.out.since.trans (hb23.mono HTK.out.since.size)
                      exact HBE.out.trans (hwr3.mono HBE.out.size)
                    clear hb3
                    go_wp2
                    go_ret3
                    exact ⟨_, rfl, World.ownsRow_nil _ _ _ _, HF.out⟩
            · have hb : Bp.rdBlk m (s.data.toList.drop zz) = ([], 0, 2) := by
                rw [drop_cons s zz hzs]
                simp only [Bp.rdBlk]
                rw [if_neg (by omega), if_pos (by rw [← hL, List.length_drop]; simp; omega)]
              rw [hb] at hd
              obtain ⟨rfl, rfl, rfl⟩ : [] = l ∧ 0 = z ∧ 2 = e := by simpa using hd
              have hlg2 : (s.size : Int) - (zz : Int) - 1 < (L : Int) := by omega
              clear hd hb hL hwm HO
              by_cases hrem : 0 < wm % 8
              · by_cases hbig : 128 < n'
                · exfalso
                  obtain rfl : m = 128 := by rw [hm1, if_pos hbig]
                  rw [hmi] at hmul
                  omega
                · obtain rfl : m = n' := by rw [hm1, if_neg hbig]
                  subst hmi
                  have hbig2 : ¬ (128 : Int) < (m : Int) := by omega
                  have hrem2 : (0 : Int) < ((wm % 8 : Nat) : Int) := by omega
                  have e0 : ((wm / 8 : Nat) : Int) + 1 = (L : Int) := by omega
                  clear hm1 hbig hrem hL2
                  generalize wm / 8 = L1 at *
                  generalize wm % 8 = R1 at *
                  go_wp2_with fail
                  go_ret3
                  exact ⟨_, rfl, World.ownsRow_nil _ _ _ _, HBE.out⟩
              · have e0 : ((wm / 8 : Nat) : Int) = (L : Int) := by omega
                have hrem2 : ((wm % 8 : Nat) : Int) = 0 := by omega
                rw [e0] at d1 d2
                rw [hrem2] at d3 d4
                by_cases hbig : 128 < n'
                · obtain rfl : m = 128 := by rw [hm1, if_pos hbig]
                  have hmi2 : mi = 128 := hmi
                  clear hmi
                  subst hmi2
                  have hbig2 : (128 : Int) < (n' : Int) := by omega
                  clear hm1 hbig hrem hL2 e0 hrem2
                  go_wp2_with fail
                  go_ret3
                  exact ⟨_, rfl, World.ownsRow_nil _ _ _ _, HBE.out⟩
                · obtain rfl : m = n' := by rw [hm1, if_neg hbig]
                  subst hmi
                  have hbig2 : ¬ (128 : Int) < (m : Int) := by omega
                  clear hm1 hbig hrem hL2 e0 hrem2
                  go_wp2_with fail
                  go_ret3
                  exact ⟨_, rfl, World.ownsRow_nil _ _ _ _, HBE.out⟩
          · have hb : Bp.rdBlk m (s.data.toList.drop zz) = ([], 0, 3) := by
              rw [drop_cons s zz hzs]
              simp only [Bp.rdBlk]
              rw [if_pos (by omega)]
            rw [hb] at hd
            obtain ⟨rfl, rfl, rfl⟩ : [] = l ∧ 0 = z ∧ 3 = e := by simpa using hd
            have hW2 : (63 : Int) < (s[zz].toNat : Int) := by omega
            clear hd hb HO
            by_cases hbig : 128 < n'
            · have hbig2 : (128 : Int) < (n' : Int) := by omega
              go_wp2_with fail
              go_ret3
              exact ⟨_, rfl, World.ownsRow_nil _ _ _ _, HBE.out⟩
            · have hbig2 : ¬ (128 : Int) < (n' : Int) := by omega
              go_wp2_with fail
              go_ret3
              exact ⟨_, rfl, World.ownsRow_nil _ _ _ _, HBE.out⟩
        · have hb : Bp.rdBlk m (s.data.toList.drop zz) = ([], 0, 2) := by
            rw [drop_all s zz (by omega)]
            rfl
          rw [hb] at hd
          obtain ⟨rfl, rfl, rfl⟩ : [] = l ∧ 0 = z ∧ 2 = e := by simpa using hd
          have z1 : ¬ (zz : Int) < (s.size : Int) := by omega
          clear hd hb HO
          by_cases hbig : 128 < n'
          · have hbig2 : (128 : Int) < (n' : Int) := by omega
            go_wp2_with fail
            go_ret3
            exact ⟨_, rfl, World.ownsRow_nil _ _ _ _, HBE.out⟩
          · have hbig2 : ¬ (128 : Int) < (n' : Int) := by omega
            go_wp2_with fail
            go_ret3
            exact ⟨_, rfl, World.ownsRow_nil _ _ _ _, HBE.out⟩
  · rw [if_pos he0] at hr
    obtain ⟨rfl, rfl, rfl⟩ : [] = l ∧ 0 = z ∧ e0 = e := by simpa using hr
    have he' : (e0 != 0) = true := by simpa using he0
    clear hr he0 b5 b6
    go_enter Try.func35, Try.ntmps35
    go_wp2_with (go_at_call 54; refine hc.out.mono ?_; rintro e1 w1 ⟨rfl, hb1⟩; have HB := Lib.hid hb1; clear hb1)
    go_ret3
    exact ⟨_, rfl, World.ownsRow_nil _ _ _ _, HB.out⟩
end Go.Proofs.Ytokdjaljeckghaa
