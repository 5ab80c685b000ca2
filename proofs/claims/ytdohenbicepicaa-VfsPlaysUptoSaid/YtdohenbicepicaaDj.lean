/-
  A look at the two disks: the walk of 'looks'.
-/
import Derived.Test.YtdohenbicepicaaDb
import Derived.Test.YtdohenbicepicaaAq
import Derived.BigRegion
import Derived.Deep.RegionWith
import Derived.Deep.RegionHeld3
namespace Go.Proofs.Ytdohenbicepicaa
open Go.RowKit Go.Maps
set_option linter.unusedVariables false

theorem two_in {w3 : World} {B : Nat} {va vb : Value} {l : List ByteArray} (ha : OwnS w3 B va l) (hb : OwnS w3 B vb l) (hne : ∀ k, va.ownBlock = some k → vb.ownBlock ≠ some k) (hl : l.length ≤ 1073741824) (hB : B ≤ w3.heap.size) :
    Ap.In (w3.alloc (.cells #[va, vb] 47)) B w3.heap.size 2 (fun j => if j = 0 then va else vb) (fun _ => l) := by
  have lta : ∀ k, va.ownBlock = some k → k < w3.heap.size := fun k hk => (World.ownsRow.lt ha k hk).2
  have ltb : ∀ k, vb.ownBlock = some k → k < w3.heap.size := fun k hk => (World.ownsRow.lt hb k hk).2
  refine ⟨fun j hj => ?_, fun j hj => ?_, fun _ _ => hl, fun j k hj hk hjk c hc => ?_, fun j hj e => ?_, by simp, by simp; omega⟩
  · match j, hj with
    | 0, _ => simp
    | 1, _ => simp
  · match j, hj with
    | 0, _ => exact World.ownsRow.alloc ha _
    | 1, _ => exact World.ownsRow.alloc hb _
  · have hcs : (j = 0 ∧ k = 1) ∨ (j = 1 ∧ k = 0) := by omega
    rcases hcs with ⟨rfl, rfl⟩ | ⟨rfl, rfl⟩
    · exact hne c hc
    · exact fun e => hne c e hc
  · match j, hj with
    | 0, _ => have := lta _ e; omega
    | 1, _ => have := ltb _ e; omega

set_option maxRecDepth 100000 in
set_option maxHeartbeats 8000000 in
theorem looks_any (w : World) (p b : Nat) (D : Vf.Dk) (c : Nat) (F G : Nat → Prop) (h : Pair w p b D c F G) (hc : c ≤ 1048000) (P : ByteArray) (hP : P.size ≤ 1048576) :
    Calls Try.prog 12 #[.pointer (some ⟨p, 0, none⟩), .pointer (some ⟨b, 0, none⟩), .string P] w fun e w' => e = .returned (.bool true) ∧ Below w.heap.size w w' := by
  have hokD := h.ok.1.ok
  have hlen : (Vf.list D).length ≤ 1048576 := by
    have h1 := hokD.names
    unfold Vf.list
    split
    · simp
    · simp; omega
  have HPA : Hid (∀ wx, Below w.heap.size w wx → PA wx p D F) := fun wx hb => h.pa.keep (fun k hk => hb.block k (h.pa.lt k hk)) hb.size
  have HRA : Hid (∀ wx, Below w.heap.size w wx → RA wx b D G) := fun wx hb => h.ra.keep (fun k hk => hb.block k (h.ra.lt k hk)) hb.size
  have hRd : Hid (Calls Try.prog 19 #[.pointer (some ⟨p, 0, none⟩), .string P] w fun e' w' => e' = .returned (.tuple #[.string (Vf.read D P).1, .int .i64 (Vf.read D P).2]) ∧ Below w.heap.size w w') := readP_any w p D F P h.pa (by omega)
  have hRr : Hid (∀ wx, Below w.heap.size w wx → Calls Try.prog 36 #[.pointer (some ⟨b, 0, none⟩), .string P] wx fun e' w' => e' = .returned (.tuple #[.string (Vf.read D P).1, .int .i64 (Vf.read D P).2]) ∧ Below w.heap.size w w') := fun wx hb => (RA.read (HRA.out wx hb) h.ok (by omega) P).mono fun _ _ hq => ⟨hq.1, hb.trans (hq.2.mono hb.size)⟩
  have hLp : Hid (∀ wx, Below w.heap.size w wx → Calls Try.prog 22 #[.pointer (some ⟨p, 0, none⟩)] wx fun e' w' => ∃ v', e' = .returned v' ∧ OwnS w' wx.heap.size v' (Vf.list D) ∧ Below wx.heap.size wx w') := fun wx hb => listP_any wx p D F c 1048576 (HPA.out wx hb) hokD (by omega)
  have hLr : Hid (∀ wx, Below w.heap.size w wx → Calls Try.prog 39 #[.pointer (some ⟨b, 0, none⟩)] wx fun e' w' => ∃ v', e' = .returned v' ∧ OwnS w' wx.heap.size v' (Vf.list D) ∧ Below wx.heap.size wx w') := fun wx hb => RA.list (HRA.out wx hb) h.ok (by omega)
  have hSt : Hid (∀ wx, Below w.heap.size w wx → Calls Try.prog 25 #[.pointer (some ⟨p, 0, none⟩)] wx fun e' w' => e' = .returned (.int .i64 (D.steps : Int)) ∧ wx = w') := fun wx hb => stepsP_any wx p D F (HPA.out wx hb)
  have hDn : Hid (∀ wx, Below w.heap.size w wx → Calls Try.prog 21 #[.pointer (some ⟨p, 0, none⟩)] wx fun e' w' => e' = .returned (.bool D.down) ∧ wx = w') := fun wx hb => downP_any wx p D F (HPA.out wx hb)
  have HCe : Hid (∀ wx, Below w.heap.size w wx → wx.cell? ⟨b, 4, none⟩ = some (.int .i64 (D.steps : Int)) ∧ wx.cell? ⟨b, 7, none⟩ = some (.bool D.down)) := fun wx hb => by
    obtain ⟨vf, vn, vk, hA, _, _⟩ := HRA.out wx hb
    exact ⟨hA.row.cell 4, hA.row.cell 7⟩
  have hN1 : Hid (∀ wx : World, Calls Try.prog 37 #[.string P] wx fun e' w' => e' = .returned (.bool (Vf.okN P)) ∧ wx = w') := fun wx => nameP_any wx P (by omega)
  have hN2 : Hid (∀ wx : World, Calls Try.prog 38 #[.string P] wx fun e' w' => e' = .returned (.bool (Vf.okN P)) ∧ wx = w') := fun wx => nameR_any wx P
  clear h hokD
  generalize Vf.read D P = rd at *
  obtain ⟨rs, re⟩ := rd
  have q1 : (rs.toList == rs.toList) = true := by simp
  generalize Vf.list D = l at *
  generalize Vf.okN P = ok at *
  generalize (D.steps : Int) = st at *
  generalize D.down = dn at *
  go_enter Try.func12, Try.ntmps12
  go_wp2_with fail
  refine hRd.out.mono ?_
  rintro e1 w1 ⟨rfl, hb⟩
  have HB1 := Lib.hid hb
  clear hb
  go_wp2_with fail
  refine (hRr.out _ HB1.out).mono ?_
  rintro e1 w2 ⟨rfl, hb⟩
  have HB2 := Lib.hid hb
  clear hb HB1
  go_wp2_with fail
  refine (hLp.out _ HB2.out).mono ?_
  rintro e1 w3 ⟨va, rfl, hoa, hb⟩
  obtain ⟨aa, ca, hva⟩ := (Ap.ownS_form hoa).1
  subst hva
  have HB3 : Hid (Below w.heap.size w w3) := HB2.out.trans (hb.mono HB2.out.size)
  have HOA := Lib.hid hoa
  have h23 := hb.size
  clear hb hoa
  go_wp2_with fail
  refine (hLp.out _ HB3.out).mono ?_
  rintro e1 w4 ⟨vb, rfl, hob, hb⟩
  obtain ⟨ab, cb, hvb⟩ := (Ap.ownS_form hob).1
  subst hvb
  have HB4 : Hid (Below w.heap.size w w4) := HB3.out.trans (hb.mono HB3.out.size)
  have HOA4 : Hid (OwnS w4 w.heap.size (.slice aa l.length ca) l) := ownsRow_base (ownsRow_keep HOA.out fun k hk => hb.block k (World.ownsRow.lt HOA.out k hk).2) HB2.out.size
  have HOB4 : Hid (OwnS w4 w.heap.size (.slice ab l.length cb) l) := ownsRow_base hob HB3.out.size
  have HNE : Hid (∀ k, (Value.slice aa l.length ca).ownBlock = some k → (Value.slice ab l.length cb).ownBlock ≠ some k) := fun k hk e => by
    have h1 := (World.ownsRow.lt HOA.out k hk).2
    have h2 := (World.ownsRow.lt hob k e).1
    omega
  clear hob hb HOA h23 HB3 HB2
  obtain ⟨d4, d7⟩ := HCe.out w4.drew HB4.out.drew
  have hbl : b < w4.heap.size := World.block_lt_of_cell? w4 _ (show w4.cell? ⟨b, 4, none⟩ = _ from d4)
  have HBd : Hid (Below w.heap.size w w4.drew) := HB4.out.drew
  have HOAd : Hid (OwnS w4.drew w.heap.size (.slice aa l.length ca) l) := HOA4.out
  have HOBd : Hid (OwnS w4.drew w.heap.size (.slice ab l.length cb) l) := HOB4.out
  -- what the later calls do
  have hS1 : Hid (∀ wx v', Below w4.drew.heap.size w4.drew wx → OwnS wx w4.drew.heap.size v' l → Calls Try.prog 26 #[(.slice aa l.length ca), v'] wx fun e w' => e = .returned (.bool true) ∧ Below w4.drew.heap.size w4.drew w') := fun wx v' hb ho => by
    have h1 := (ownsRow_keep HOAd.out fun k hk => hb.block k (World.ownsRow.lt HOAd.out k hk).2 : OwnS wx w.heap.size (.slice aa l.length ca) l)
    exact (same_any wx (.slice aa l.length ca) v' l l (OwnS.view h1 (by omega)) (OwnS.view ho (by omega))).mono fun e w' hq => ⟨by rw [hq.1]; simp, hb.trans (hq.2.mono hb.size)⟩
  have hS2 : Hid (∀ wx, Below w4.drew.heap.size w4.drew wx → Calls Try.prog 26 #[(.slice ab l.length cb), (.slice aa l.length ca)] wx fun e w' => e = .returned (.bool true) ∧ Below w4.drew.heap.size w4.drew w') := fun wx hb => by
    have h1 := (ownsRow_keep HOAd.out fun k hk => hb.block k (World.ownsRow.lt HOAd.out k hk).2 : OwnS wx w.heap.size (.slice aa l.length ca) l)
    have h2 := (ownsRow_keep HOBd.out fun k hk => hb.block k (World.ownsRow.lt HOBd.out k hk).2 : OwnS wx w.heap.size (.slice ab l.length cb) l)
    exact (same_any wx (.slice ab l.length cb) (.slice aa l.length ca) l l (OwnS.view h2 (by omega)) (OwnS.view h1 (by omega))).mono fun e w' hq => ⟨by rw [hq.1]; simp, hb.trans (hq.2.mono hb.size)⟩
  have hAp : Hid (∀ wx cp, Below w4.drew.heap.size w4.drew wx → Calls Try.prog 40 #[.slice (some ⟨wx.heap.size, 0, none⟩) 2 cp] (wx.alloc (.cells #[(.slice aa l.length ca), (.slice ab l.length cb)] 47)) fun e w' => e = .returned (.bool true) ∧ Below w.heap.size w w') := fun wx cp hb => by
    have h1 := (ownsRow_keep HOAd.out fun k hk => hb.block k (World.ownsRow.lt HOAd.out k hk).2 : OwnS wx w.heap.size (.slice aa l.length ca) l)
    have h2 := (ownsRow_keep HOBd.out fun k hk => hb.block k (World.ownsRow.lt HOBd.out k hk).2 : OwnS wx w.heap.size (.slice ab l.length cb) l)
    have hs := HBd.out.size
    have hBx : Below w.heap.size w wx := HBd.out.trans (hb.mono hs)
    have hs2 := hBx.size
    exact (apart_any _ w.heap.size wx.heap.size 2 cp _ _ (two_in h1 h2 HNE.out (by omega) hs2) (by omega)).mono fun e w' hq => ⟨hq.1, (hBx.alloc hs2 _).trans hq.2⟩
  clear HPA HRA hRd hRr hLp HNE HOA4 HOB4 HOAd HOBd HB4
  have HCk : Hid (∀ wx, Below w4.drew.heap.size w4.drew wx → wx.cell? ⟨b, 4, none⟩ = some (.int .i64 st) ∧ wx.cell? ⟨b, 7, none⟩ = some (.bool dn)) := fun wx hb => ⟨(hb.cell (p := ⟨b, 4, none⟩) (by simpa using hbl)).trans d4, (hb.cell (p := ⟨b, 7, none⟩) (by simpa using hbl)).trans d7⟩
  have hLr2 := Lib.hid (hLr.out _ HBd.out)
  have hSt2 := Lib.hid (hSt.out _ HBd.out)
  have hDn2 := Lib.hid (hDn.out _ HBd.out)
  go_wp2_with fail
  go_region_held3 (fun wx => wx.cell? ⟨b, 4, none⟩ = some (.int .i64 st) ∧ wx.cell? ⟨b, 7, none⟩ = some (.bool dn)) (first | exact ⟨d4, d7⟩ | exact HCk.out _ HB5.out | exact HCk.out _ (HB5.out.alloc HB5.out.size _) | exact HCe.out _ HB5.out) (first
    | (go_at_call 25; refine hSt2.out.mono ?_; rintro e1 wz ⟨rfl, rfl⟩)
    | (go_at_call 21; refine hDn2.out.mono ?_; rintro e1 wz ⟨rfl, rfl⟩)
    | (go_at_call 37; refine (hN1.out _).mono ?_; rintro e1 wz ⟨rfl, rfl⟩)
    | (go_at_call 38; refine (hN2.out _).mono ?_; rintro e1 wz ⟨rfl, rfl⟩)
    | (go_at_call 39; refine hLr2.out.mono ?_; rintro e1 w5 ⟨vr, rfl, ho5, hb5⟩; have HO5 := Lib.hid ho5; have HB5 := Lib.hid hb5; clear ho5 hb5)
    | (go_at_call 40; refine (hAp.out _ _ HB5.out).mono ?_; rintro e1 w8 ⟨rfl, hb5⟩; have HB5 := Lib.hid hb5; clear hb5)
    | (go_at_call 26; refine (hS1.out _ _ HB5.out HO5.out).mono ?_; rintro e1 w6 ⟨rfl, hb5⟩; have HB5 := Lib.hid hb5; clear hb5)
    | (go_at_call 26; refine (hS2.out _ HB5.out).mono ?_; rintro e1 w7 ⟨rfl, hb5⟩; have HB5 := Lib.hid hb5; clear hb5))
  all_goals
    go_wp2_with fail
    go_ret
    exact ⟨rfl, HB5.out⟩
end Go.Proofs.Ytdohenbicepicaa
