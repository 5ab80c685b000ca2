/-
  Lemmas on automata, the program's calls and the given ones, put together of 3 texts (part 5).
-/
import Derived.Test.YtdjiknakbldggaaQ4
/-
  Each term has its number: the walk of FstGets.
-/
namespace Go.Proofs.Ytdjiknakbldggaa
open Go.RowKit Go.Maps

theorem light_of {l : List Fs.En} (h : lightF l = true) : l.length ≤ 120 ∧ Fs.total l ≤ 600 := by
  unfold lightF at h
  rw [Bool.and_eq_true] at h
  have h1 := of_decide_eq_true h.1
  have h2 := of_decide_eq_true h.2
  rw [List.take_of_length_le (by omega)] at h2
  exact ⟨h1, h2⟩
/-- What the statements' walks have of a list. -/
structure Lst (w : World) (v : Value) (l : List Fs.En) : Prop where
  ens : EnS w v l
  long : ∀ e ∈ l, e.1.length ≤ 140737488355328
  nums : ∀ e ∈ l, e.2 ≤ 9223372036854775807
set_option maxRecDepth 100000 in
set_option maxHeartbeats 4000000 in
theorem gets_far (w : World) (v : Value) (l : List Fs.En) (at_ : Option Addr) (m ct : Nat) (h : EnS w v l) (hb : ∀ e ∈ l, e.1.length ≤ 140737488355328) (hl : lightF l = false) :
    Calls Try.prog 5 #[v, .slice at_ m ct] w fun e w' => e = .returned (.bool true) ∧ Below w.heap.size w w' := by
  have HLI : Hid (∀ w', Below w.heap.size w w' → Calls Try.prog 9 #[v] w' fun e w'' => e = .returned (.bool false) ∧ Below w'.heap.size w' w'') := fun w' hbw => by
    have := light_any w' v l (h.below hbw (Nat.le_refl _)) hb
    rw [hl] at this
    exact this
  obtain ⟨a, cap, rfl, -, -, -⟩ := h
  clear hb hl
  generalize l.length = n at *
  go_enter Try.func5, Try.ntmps5
  go_wp2_with (first | (go_at_call 8; first | (refine (awake_any w2).mono ?_; rintro e9 w9 ⟨rfl, hb9⟩; have HB9 := Lib.hid (HB2.out.trans (hb9.mono HB2.out.size)); clear hb9) | (refine (awake_any w1).mono ?_; rintro e9 w9 ⟨rfl, hb9⟩; have HB9 := Lib.hid (HB1.out.trans (hb9.mono HB1.out.size)); clear hb9) | (refine (awake_any w).mono ?_; rintro e0 w0 ⟨rfl, hb0⟩; have HB0 := Lib.hid hb0; clear hb0)) | (go_at_call 9; go_loud ((refine (HLI.out w0 HB0.out).mono ?_; rintro e1 w1 ⟨rfl, hb1⟩; have HB1 := Lib.hid (HB0.out.trans (hb1.mono HB0.out.size)); clear hb1))))
  go_ret
  exact ⟨rfl, HB9.out⟩
set_option maxRecDepth 100000 in
set_option maxHeartbeats 4000000 in
theorem gets_bad (w : World) (v : Value) (l : List Fs.En) (at_ : Option Addr) (m ct : Nat) (h : EnS w v l) (hb : ∀ e ∈ l, e.1.length ≤ 140737488355328) (hl : lightF l = true) (hr : Fs.right l ≠ 0) :
    Calls Try.prog 5 #[v, .slice at_ m ct] w fun e w' => e = .returned (.bool true) ∧ Below w.heap.size w w' := by
  have HLI : Hid (∀ w', Below w.heap.size w w' → Calls Try.prog 9 #[v] w' fun e w'' => e = .returned (.bool true) ∧ Below w'.heap.size w' w'') := fun w' hbw => by
    have := light_any w' v l (h.below hbw (Nat.le_refl _)) hb
    rw [hl] at this
    exact this
  have HRI : Hid (∀ w', Below w.heap.size w w' → Calls Try.prog 16 #[v] w' fun e w'' => e = .returned (.int .i64 (Fs.right l)) ∧ Below w'.heap.size w' w'') := fun w' hbw => right_any w' v l (h.below hbw (Nat.le_refl _))
  obtain ⟨a, cap, rfl, -, -, -⟩ := h
  have hr2 : ¬ Fs.right l = 0 := hr
  clear hb hl hr
  generalize Fs.right l = E at *
  generalize l.length = n at *
  go_enter Try.func5, Try.ntmps5
  go_wp2_with (first | (go_at_call 8; first | (refine (awake_any w2).mono ?_; rintro e9 w9 ⟨rfl, hb9⟩; have HB9 := Lib.hid (HB2.out.trans (hb9.mono HB2.out.size)); clear hb9) | (refine (awake_any w1).mono ?_; rintro e9 w9 ⟨rfl, hb9⟩; have HB9 := Lib.hid (HB1.out.trans (hb9.mono HB1.out.size)); clear hb9) | (refine (awake_any w).mono ?_; rintro e0 w0 ⟨rfl, hb0⟩; have HB0 := Lib.hid hb0; clear hb0)) | (go_at_call 9; go_loud ((refine (HLI.out w0 HB0.out).mono ?_; rintro e1 w1 ⟨rfl, hb1⟩; have HB1 := Lib.hid (HB0.out.trans (hb1.mono HB0.out.size)); clear hb1))) | (go_at_call 16; go_loud ((refine (HRI.out w1 HB1.out).mono ?_; rintro e2 w2 ⟨rfl, hb2⟩; have HB2 := Lib.hid (HB1.out.trans (hb2.mono HB1.out.size)); clear hb2))))
  go_ret
  exact ⟨rfl, HB9.out⟩
theorem own_at {w : World} {B n c : Nat} {a : Option Addr} {l : List Fs.En} (h : OwnE w B (.slice a n c) l) (hn : n = l.length) : 0 < n → ∃ g, a = some ⟨g, 0, none⟩ ∧ B ≤ g ∧ g < w.heap.size ∧ ∃ cs, w.heap[g]? = some (Obj.cells cs 26 (0, 0)) ∧ n * 2 ≤ cs.size := by
  intro h0
  rcases h.2 with ⟨e, h1⟩ | ⟨g, cap, cur, e, hg, hh, hnc, hcp, hcs, _⟩
  · omega
  · injection e with e1 e2 e3
    refine ⟨g, e1, hg, (Array.getElem?_eq_some_iff.1 hh).1, cur, hh, ?_⟩
    rw [hcs]
    exact Nat.mul_le_mul_right _ (by omega)
set_option maxRecDepth 100000 in
set_option maxHeartbeats 16000000 in
theorem gets_main (w : World) (v : Value) (l : List Fs.En) (tv : Value) (ts : List (List UInt8)) (hL : Lst w v l) (hl : lightF l = true) (hr : Fs.right l = 0) (ht : frame.TxS w tv ts) (htl : ∀ s ∈ ts, s.length ≤ 140737488355328) (htm : ts.length ≤ 1048576) :
    Calls Try.prog 5 #[v, tv] w fun e w' => e = .returned (.bool true) ∧ Below w.heap.size w w' := by
  obtain ⟨h, hb, hm⟩ := hL
  obtain ⟨hn0, htot⟩ := light_of hl
  have hmx : ∀ e ∈ l, e.2 ≤ Fs.mx := hm
  have HLI : Hid (∀ w', Below w.heap.size w w' → Calls Try.prog 9 #[v] w' fun e w'' => e = .returned (.bool true) ∧ Below w'.heap.size w' w'') := fun w' hbw => by
    have := light_any w' v l (h.below hbw (Nat.le_refl _)) hb
    rw [hl] at this
    exact this
  have HRI : Hid (∀ w', Below w.heap.size w w' → Calls Try.prog 16 #[v] w' fun e w'' => e = .returned (.int .i64 0) ∧ Below w'.heap.size w' w'') := fun w' hbw => by
    have := right_any w' v l (h.below hbw (Nat.le_refl _))
    rw [hr] at this
    exact this
  have HBU : Hid (∀ w', Below w.heap.size w w' → Calls Try.prog 10 #[v] w' fun e w'' => e = .returned (.tuple #[.string (bs (Fs.built l)), .int .i64 0]) ∧ Below w'.heap.size w' w'') := fun w' hbw => by
    have := build_any w' v l (h.below hbw (Nat.le_refl _)) hm
    unfold BuildPost at this
    rw [hr] at this
    exact this
  have HOP : Hid (∀ w1, Calls Try.prog 13 #[.string (bs (Fs.built l))] w1 fun e w' => ∃ db, e = .returned (.tuple #[.pointer (some ⟨db, 0, none⟩), .int .i64 0]) ∧ Below w1.heap.size w1 w' ∧ w1.heap.size ≤ db ∧ Dc w' db l) := fun w1 => open_built l w1 hr hmx htot
  have HAL : Hid (∀ w1 db, Dc w1 db l → Calls Try.prog 15 #[.pointer (some ⟨db, 0, none⟩)] w1 fun e w' => ∃ a c, e = .returned (.slice a l.length c) ∧ OwnE w' w1.heap.size (.slice a l.length c) l ∧ Below w1.heap.size w1 w') := fun w1 db hd => by
    refine (all_dc l w1 db hd hr hmx).mono ?_
    rintro e w' ⟨v', rfl, ho, hbw⟩
    obtain ⟨a, c, rfl⟩ := ho.form
    exact ⟨a, c, rfl, ho, hbw⟩
  have HCO : Hid (∀ w1 db, Dc w1 db l → Calls Try.prog 17 #[.pointer (some ⟨db, 0, none⟩)] w1 fun e w' => ∃ nd : Int, e = .returned (.tuple #[.int .i64 (l.length : Int), .int .i64 nd]) ∧ Below w1.heap.size w1 w') := fun w1 db hd => (count_dc l w1 db hd).mono fun e w' q => ⟨_, q⟩
  have HSM : Hid (∀ w' v', EnS w' v' l → Below w.heap.size w w' → Calls Try.prog 12 #[v', v] w' fun e w'' => e = .returned (.bool true) ∧ Below w'.heap.size w' w'') := fun w' v' hv hbw => by
    have := sameS_any w' v' v l l hv (h.below hbw (Nat.le_refl _))
    rw [decide_eq_true rfl] at this
    exact this
  have HGE : Hid (∀ w1 db s, Dc w1 db l → s.length ≤ 140737488355328 → Calls Try.prog 18 #[.pointer (some ⟨db, 0, none⟩), .string (bs s)] w1 fun e w' => e = .returned (.tuple #[.int .i64 ((Fs.lk l s).getD 0), .bool (Fs.lk l s).isSome]) ∧ Below w1.heap.size w1 w') := fun w1 db s hd hs => get_dc l s w1 db hd hr hmx hs
  have HGR : Hid (∀ w' s, Below w.heap.size w w' → Calls Try.prog 19 #[v, .string (bs s)] w' fun e w'' => e = .returned (.tuple #[.int .i64 ((Fs.lk l s).getD 0), .bool (Fs.lk l s).isSome]) ∧ Below w'.heap.size w' w'') := fun w' s hbw => getR_any w' v l s (h.below hbw (Nat.le_refl _))
  have HC : Hid (∀ wx, Below w.heap.size w wx → EnS wx v l) := fun wx hbw => h.below hbw (Nat.le_refl _)
  obtain ⟨al, cl, rfl, hcl1, hcl2, hcell⟩ := h
  have HLC : Hid (∀ wx, Below w.heap.size w wx → 0 < l.length → ∃ g o, al = some ⟨g, o, none⟩ ∧ EnC wx g o l) := fun wx hbw h0 => by
    obtain ⟨g, o, h1, h2, h3⟩ := hcell h0
    exact ⟨g, o, h1, h3.below hbw h2⟩
  obtain ⟨at_, ct, rfl, htm2, htc⟩ := ht
  have HTC : Hid (∀ wx, Below w.heap.size w wx → 0 < ts.length → ∃ g o, at_ = some ⟨g, o, none⟩ ∧ ∀ i (_ : i < ts.length), wx.cell? ⟨g, o + i, none⟩ = some (.string (bs ts[i]))) := fun wx hbw h0 => by
    obtain ⟨g, o, h1, h2, h3⟩ := htc h0
    exact ⟨g, o, h1, fun i hi => (hbw.cell (p := ⟨g, o + i, none⟩) h2).trans (h3 i hi)⟩
  obtain ⟨n, hn⟩ : ∃ n, n = l.length := ⟨_, rfl⟩
  obtain ⟨m, hmn⟩ : ∃ m, m = ts.length := ⟨_, rfl⟩
  have HN := Lib.hid hn
  have HM := Lib.hid hmn
  have HLB : Hid (∀ i (_ : i < l.length), l[i].1.length ≤ 140737488355328) := fun i hi => hb _ (List.getElem_mem hi)
  have HTB : Hid (∀ i (_ : i < ts.length), ts[i].length ≤ 140737488355328) := fun i hi => htl _ (List.getElem_mem hi)
  rw [← hn] at HLI HRI HBU HAL HCO HSM HGR HC hcl1 hn0 ⊢
  rw [← hmn] at htm ⊢
  have HHN := Lib.hid hcl1
  have hnm : (n : Int) + (m : Int) ≤ 9223372036854775807 := by omega
  have hwnm : IntKind.i64.wrap ((n : Int) + (m : Int)) = ((n + m : Nat) : Int) := by rw [IntWalk.i64_in _ (by omega)]; omega
  clear hb hm hmx htot hl hr hcl1 hcl2 hcell htm2 htc htl hn hmn
  obtain ⟨S, hS⟩ : ∃ S, S = bs (Fs.built l) := ⟨_, rfl⟩
  rw [← hS] at HBU HOP
  clear hS
  go_enter Try.func5, Try.ntmps5
  go_wp2_with (first | (go_at_call 8; go_loud ((refine (awake_any w).mono ?_; rintro e0 w0 ⟨rfl, hb0⟩; have HB0 := Lib.hid hb0; clear hb0))) | (go_at_call 9; go_loud ((refine (HLI.out w0 HB0.out).mono ?_; rintro e1 w1 ⟨rfl, hb1⟩; have HB1 := Lib.hid (HB0.out.trans (hb1.mono HB0.out.size)); clear hb1))) | (go_at_call 16; go_loud ((refine (HRI.out w1 HB1.out).mono ?_; rintro e2 w2 ⟨rfl, hb2⟩; have HB2 := Lib.hid (HB1.out.trans (hb2.mono HB1.out.size)); clear hb2))) | (go_at_call 10; go_loud ((refine (HBU.out w2 HB2.out).mono ?_; rintro e3 w3 ⟨rfl, hb3⟩; have HB3 := Lib.hid (HB2.out.trans (hb3.mono HB2.out.size)); clear hb3))) | (go_at_call 13; go_loud ((refine (HOP.out w3).mono ?_; rintro e4 w4 ⟨db, rfl, hb4, hdb4, hd4⟩; have HB4 := Lib.hid (HB3.out.trans (hb4.mono HB3.out.size)); have HD4 := Lib.hid hd4; clear hb4 hdb4 hd4))) | (go_at_call 15; first | (refine (HAL.out w5 db (HD4.out.below HB5.out)).mono ?_; rintro e6 w6 ⟨ab, cb, rfl, ho6, hb6⟩; have HO6 := Lib.hid ho6; have HB6 := Lib.hid hb6; clear ho6 hb6) | (refine (HAL.out w4 db HD4.out).mono ?_; rintro e5 w5 ⟨aa, ca, rfl, ho5, hb5⟩; have HO5 := Lib.hid ho5; have HB5 := Lib.hid hb5; clear ho5 hb5)) | (go_at_call 17; go_loud ((refine (HCO.out w6 db (HD4.out.below (HB5.out.trans (HB6.out.mono HB5.out.size)))).mono ?_; rintro e7 w7 ⟨nd, rfl, hb7⟩; have HB7 := Lib.hid hb7; clear hb7))) | (go_at_call 12; go_loud ((have hbw : Below w.heap.size w w7 := HB4.out.trans ((HB5.out.trans ((HB6.out.trans (HB7.out.mono HB6.out.size)).mono HB5.out.size)).mono HB4.out.size); refine (HSM.out w7 (.slice aa n ca) (HO5.out.ens.below (HB6.out.trans (HB7.out.mono HB6.out.size)) (Nat.le_refl _)) hbw).mono ?_; clear hbw; rintro e8 w8 ⟨rfl, hb8⟩; have HB8 := Lib.hid (HB7.out.trans (hb8.mono HB7.out.size)); clear hb8))))
  have HB68 : Hid (Below w5.heap.size w5 w8) := HB6.out.trans (HB8.out.mono HB6.out.size)
  have HAT := Lib.hid (own_at HO5.out HN.out)
  have HBV : Hid (∀ wx, KeptF (fun k => (.slice aa n ca : Value).ownBlock = some k) w8 wx → Below w.heap.size w wx ∧ Below w4.heap.size w4 wx ∧ OwnE wx w5.heap.size (.slice ab n cb) l) := fun wx k => by
    have hk : ∀ k, (.slice aa n ca : Value).ownBlock = some k → w4.heap.size ≤ k ∧ k < w5.heap.size := fun k hk => World.ownsRow.lt HO5.out k hk
    have h1 : Below w4.heap.size w4 w8 := HB5.out.trans (HB68.out.mono HB5.out.size)
    have h2 : Below w4.heap.size w4 wx := KeptF.below h1 k (fun k q => (hk k q).1) h1.size
    refine ⟨HB4.out.trans (h2.mono HB4.out.size), h2, ?_⟩
    have h3 : OwnE w8 w5.heap.size (.slice ab n cb) l := ownsRow_keep HO6.out fun k q => HB8.out.block k (World.ownsRow.lt HO6.out k q).2
    exact ownsRow_keep h3 fun j q => k.block j (World.ownsRow.lt h3 j q).2 (fun q2 => by have := (hk j q2).2; have := (World.ownsRow.lt h3 j q).1; omega)
  have HRW : Hid (0 < n → ∃ g, aa = some ⟨g, 0, none⟩ ∧ ∃ cs, w8.heap[g]? = some (Obj.cells cs 26 (0, 0)) ∧ n * 2 ≤ cs.size) := fun h0 => by
    obtain ⟨g, e, _, h2, cs, h3, h4⟩ := HAT.out h0
    exact ⟨g, e, cs, (HB68.out.block g h2).trans h3, h4⟩
  clear HAT HLI HRI HBU HOP HAL HCO HB0 HB1 HB2 HB3 HO5 HO6 HB5 HB6 HB7 HB8 HB68 HB4
  go_loopg [13] n (fun gg s13 wx => ∃ i : Nat, i ≤ n ∧ gg = n - i ∧ s13 = .int .i64 (i : Int) ∧ Hid (KeptF (fun k => (.slice aa n ca : Value).ownBlock = some k) w8 wx) ∧ Hid (0 < n → ∃ g, aa = some ⟨g, 0, none⟩ ∧ ∃ cs, wx.heap[g]? = some (Obj.cells cs 26 (0, 0)) ∧ n * 2 ≤ cs.size))
  case atStart => exact ⟨0, Nat.zero_le _, rfl, rfl, KeptF.refl _ _, HRW.out⟩
  case round =>
    clear HRW
    obtain ⟨i, hi, rfl, rfl, hK, hR⟩ := hrel
    by_cases hin : i < n
    · have i1 : (i : Int) < (n : Int) := by omega
      obtain ⟨g, rfl, cs, hrow, hcs⟩ := hR.out (by omega)
      have r0 : RowT 26 wr g cs := hrow
      have r1 := r0.set (i * 2) (.string ⟨#[]⟩)
      have r2 := r1.set (i * 2 + 1) (.int .i64 (-1))
      have g0 : wr.cell? ⟨g, i * 2, none⟩ = some (cs[i * 2]'(by omega)) := by rw [r0.cell]; exact Array.getElem?_eq_getElem _
      have g1 := r0.frozen (i * 2)
      have g2 : (wr.setCell ⟨g, i * 2, none⟩ (.string ⟨#[]⟩)).cell? ⟨g, i * 2 + 1, none⟩ = some ((cs.setIfInBounds (i * 2) (.string ⟨#[]⟩))[i * 2 + 1]'(by simp; omega)) := by rw [r1.cell]; exact Array.getElem?_eq_getElem _
      have g3 := r1.frozen (i * 2 + 1)
      have HR2 : Hid (0 < n → ∃ g', (some (⟨g, 0, none⟩ : Addr)) = some ⟨g', 0, none⟩ ∧ ∃ cs, ((wr.setCell ⟨g, i * 2, none⟩ (.string ⟨#[]⟩)).setCell ⟨g, i * 2 + 1, none⟩ (.int .i64 (-1))).heap[g']? = some (Obj.cells cs 26 (0, 0)) ∧ n * 2 ≤ cs.size) := fun _ => ⟨g, rfl, _, r2, by simpa using hcs⟩
      have HK2 : Hid (KeptF (fun k => (.slice (some ⟨g, 0, none⟩) n ca : Value).ownBlock = some k) w8 ((wr.setCell ⟨g, i * 2, none⟩ (.string ⟨#[]⟩)).setCell ⟨g, i * 2 + 1, none⟩ (.int .i64 (-1)))) := (hK.out.set g _ rfl _).set g _ rfl _
      generalize (cs[i * 2]'(by omega)) = y0 at *
      generalize ((cs.setIfInBounds (i * 2) (.string ⟨#[]⟩))[i * 2 + 1]'(by simp; omega)) = y1 at *
      clear r0 r1 r2 hrow hcs hR hK
      go_wp2_with fail
      go_roundg (n - (i + 1))
      case rel => exact ⟨i + 1, by omega, rfl, by go_num, HK2, HR2⟩
      case measure => omega
    · obtain rfl : i = n := by omega
      have i1 : ¬ (i : Int) < (i : Int) := by omega
      obtain ⟨hbw, hb4, hob⟩ := HBV.out wr hK.out
      have HBW := Lib.hid hbw
      have HDX := Lib.hid (HD4.out.below hb4)
      have HOB := Lib.hid hob
      clear hbw hb4 hob HBV hK hR HD4
      go_wp2_with fail
      generalize wr = wy at *
      go_loopg [14] (i + m) (fun gg s14 wx => ∃ j : Nat, j ≤ i + m ∧ gg = i + m - j ∧ s14 = .int .i64 (j : Int) ∧ Hid (Below wy.heap.size wy wx))
      case atStart => exact ⟨0, Nat.zero_le _, rfl, rfl, Below.refl _ _⟩
      case round =>
        obtain ⟨j, hj, rfl, rfl, hB⟩ := hrel
        have HBX : Hid (Below w.heap.size w wr) := HBW.out.trans (hB.out.mono HBW.out.size)
        have HDY : Hid (Dc wr db l) := HDX.out.below hB.out
        by_cases hjn : j < i + m
        · have j1 : (j : Int) < ((i + m : Nat) : Int) := by omega
          by_cases hji : j < i
          · have j2 : (j : Int) < (i : Int) := by omega
            have jl : j < l.length := by rw [← HN.out]; exact hji
            obtain ⟨g, o, rfl, hce⟩ := HLC.out wr HBX.out (by omega)
            obtain ⟨c1, _⟩ := hce j jl
            have HTS : Hid (∃ t, t = l[j].1 ∧ t.length ≤ 140737488355328) := ⟨_, rfl, HLB.out j jl⟩
            obtain ⟨t, het, htlen⟩ := HTS.out
            rw [← het] at c1
            have HTL := Lib.hid htlen
            clear het htlen hce HTS
            have HG1 : Hid (Calls Try.prog 18 #[.pointer (some ⟨db, 0, none⟩), .string (bs t)] wr fun e w' => e = .returned (.tuple #[.int .i64 ((Fs.lk l t).getD 0), .bool (Fs.lk l t).isSome]) ∧ Below wr.heap.size wr w') := HGE.out wr db t HDY.out HTL.out
            have HG2 : Hid (∀ w', Below w.heap.size w w' → Calls Try.prog 19 #[.slice (some ⟨g, o, none⟩) i cl, .string (bs t)] w' fun e w'' => e = .returned (.tuple #[.int .i64 ((Fs.lk l t).getD 0), .bool (Fs.lk l t).isSome]) ∧ Below w'.heap.size w' w'') := fun w' hw => HGR.out w' t hw
            generalize (Fs.lk l t).getD 0 = x1 at *
            generalize (Fs.lk l t).isSome = x2 at *
            generalize bs t = S1 at *
            go_wp2_with (first | (go_at_call 18; go_loud ((refine HG1.out.mono ?_; rintro e1 u1 ⟨rfl, hb1⟩; have HU1 := Lib.hid (hB.out.trans (hb1.mono hB.out.size)); have HX1 := Lib.hid (HBX.out.trans (hb1.mono HBX.out.size)); clear hb1))) | (go_at_call 19; go_loud ((refine (HG2.out u1 HX1.out).mono ?_; rintro e2 u2 ⟨rfl, hb2⟩; have HU2 := Lib.hid (HU1.out.trans (hb2.mono HU1.out.size)); clear hb2))))
            go_roundg (i + m - (j + 1))
            case rel => exact ⟨j + 1, by omega, rfl, by go_num, HU2⟩
            case measure => omega
          · have j2 : ¬ (j : Int) < (i : Int) := by omega
            have jt : j - i < ts.length := by rw [← HM.out]; omega
            have jw : IntKind.i64.wrap ((j : Int) - (i : Int)) = ((j - i : Nat) : Int) := by rw [IntWalk.i64_in _ (by omega)]; omega
            have jw1 : (0 : Int) ≤ ((j - i : Nat) : Int) := by omega
            have jw2 : ((j - i : Nat) : Int) < (m : Int) := by omega
            obtain ⟨g, o, rfl, hce⟩ := HTC.out wr HBX.out (by omega)
            have c1 := hce (j - i) jt
            have HTS : Hid (∃ t, t = ts[j - i] ∧ t.length ≤ 140737488355328) := ⟨_, rfl, HTB.out _ jt⟩
            obtain ⟨t, het, htlen⟩ := HTS.out
            rw [← het] at c1
            have HTL := Lib.hid htlen
            clear het htlen hce HTS
            have HG1 : Hid (Calls Try.prog 18 #[.pointer (some ⟨db, 0, none⟩), .string (bs t)] wr fun e w' => e = .returned (.tuple #[.int .i64 ((Fs.lk l t).getD 0), .bool (Fs.lk l t).isSome]) ∧ Below wr.heap.size wr w') := HGE.out wr db t HDY.out HTL.out
            have HG2 : Hid (∀ w', Below w.heap.size w w' → Calls Try.prog 19 #[.slice al i cl, .string (bs t)] w' fun e w'' => e = .returned (.tuple #[.int .i64 ((Fs.lk l t).getD 0), .bool (Fs.lk l t).isSome]) ∧ Below w'.heap.size w' w'') := fun w' hw => HGR.out w' t hw
            generalize (Fs.lk l t).getD 0 = x1 at *
            generalize (Fs.lk l t).isSome = x2 at *
            generalize bs t = S1 at *
            go_wp2_with (first | (go_at_call 18; go_loud ((refine HG1.out.mono ?_; rintro e1 u1 ⟨rfl, hb1⟩; have HU1 := Lib.hid (hB.out.trans (hb1.mono hB.out.size)); have HX1 := Lib.hid (HBX.out.trans (hb1.mono HBX.out.size)); clear hb1))) | (go_at_call 19; go_loud ((refine (HG2.out u1 HX1.out).mono ?_; rintro e2 u2 ⟨rfl, hb2⟩; have HU2 := Lib.hid (HU1.out.trans (hb2.mono HU1.out.size)); clear hb2))))
            go_roundg (i + m - (j + 1))
            case rel => exact ⟨j + 1, by omega, rfl, by go_num, HU2⟩
            case measure => omega
        · obtain rfl : j = i + m := by omega
          have j1 : ¬ ((i + m : Nat) : Int) < ((i + m : Nat) : Int) := by omega
          have HEB : Hid (EnS wr (.slice ab i cb) l) := HOB.out.ens.below hB.out (Nat.le_refl _)
          clear hB
          go_wp2_with (go_at_call 12; go_loud ((refine (HSM.out wr (.slice ab i cb) HEB.out HBX.out).mono ?_; rintro e8 w9 ⟨rfl, hb8⟩; have HB9 := Lib.hid (HBX.out.trans (hb8.mono HBX.out.size)); clear hb8)))
          try rw [Exit.noGoto_ret]
          go_ret
          exact ⟨rfl, HB9.out⟩
theorem gets_walk (w : World) (v : Value) (l : List Fs.En) (at_ : Option Addr) (m ct : Nat) (ts : List (List UInt8)) (hL : Lst w v l) (ht : frame.TxS w (.slice at_ m ct) ts) (htl : ∀ s ∈ ts, s.length ≤ 140737488355328) (htm : ts.length ≤ 1048576) :
    Calls Try.prog 5 #[v, .slice at_ m ct] w fun e w' => e = .returned (.bool true) ∧ Below w.heap.size w w' := by
  cases hl : lightF l with
  | false => exact gets_far w v l at_ m ct hL.ens hL.long hl
  | true =>
    by_cases hr : Fs.right l = 0
    · exact gets_main w v l _ ts hL hl hr ht htl htm
    · exact gets_bad w v l at_ m ct hL.ens hL.long hl hr
end Go.Proofs.Ytdjiknakbldggaa

/-
  What is asked of the nodes of terms, plainly; no program is named here.
-/
namespace Go.Proofs.Ytdjiknakbldggaa.Fs
open Go.RowKit

theorem node_live {M : List (List En)} {l : List En} (h : Good l) : (node M l).1.isSome = true ∨ 0 < (node M l).2.length := by
  show (last l).isSome = true ∨ 0 < ((ways l).map _).length
  rw [List.length_map]
  cases hl : last l with
  | some v => exact .inl rfl
  | none =>
    refine .inr (List.length_pos_iff.2 fun hw => h.ne ?_)
    have := told h.rise
    rw [hl, hw] at this
    exact this
theorem node_ways {M : List (List En)} {l : List En} (h : Good l) : (node M l).2.length ≤ 256 ∧ (∀ k (hk : k < (node M l).2.length), 0 ≤ (node M l).2[k].2.1) ∧ ∀ k (hk : k + 1 < (node M l).2.length), ((node M l).2[k]'(by omega)).1.toNat < ((node M l).2[k + 1]).1.toNat := by
  have hlen : (node M l).2.length = (ways l).length := List.length_map _
  refine ⟨by rw [hlen]; exact ways_few l, fun k hk => ?_, fun k hk => ?_⟩
  · have hk2 : k < (ways l).length := by omega
    have e : (node M l).2[k] = ((ways l)[k].1, (ways l)[k].2.1, at_ M (ways l)[k].2.2) := List.getElem_map _
    rw [e]
    exact way_pos h (List.getElem_mem hk2)
  · have hk2 : k + 1 < (ways l).length := by omega
    have e1 : (node M l).2[k]'(by omega) = ((ways l)[k].1, (ways l)[k].2.1, at_ M (ways l)[k].2.2) := List.getElem_map _
    have e2 : (node M l).2[k + 1] = ((ways l)[k + 1].1, (ways l)[k + 1].2.1, at_ M (ways l)[k + 1].2.2) := List.getElem_map _
    rw [e1, e2]
    exact List.pairwise_iff_getElem.1 (ways_rise l) k (k + 1) (by omega) hk2 (by omega)
theorem nd_eq {a b : Nd} (h : a.1.isSome = b.1.isSome ∧ a.1.getD 0 = b.1.getD 0 ∧ a.2 = b.2) : a = b := by
  obtain ⟨f, ws⟩ := a
  obtain ⟨g, vs⟩ := b
  obtain ⟨h1, h2, h3⟩ := h
  dsimp only at h1 h2 h3
  subst h3
  cases f with
  | none =>
    cases g with
    | none => rfl
    | some v => cases h1
  | some u =>
    cases g with
    | none => cases h1
    | some v =>
      have : u = v := h2
      rw [this]
theorem node_apart {M : List (List En)} (hM : Net M) {i k : Nat} (hi : i < M.length) (hk : k < i) : ¬ ((nd (M.map (node M)) k).1.isSome = (nd (M.map (node M)) i).1.isSome ∧ (nd (M.map (node M)) k).1.getD 0 = (nd (M.map (node M)) i).1.getD 0 ∧ (nd (M.map (node M)) k).2 = (nd (M.map (node M)) i).2) := by
  intro h
  have e := nd_eq h
  have hk2 : k < M.length := by omega
  rw [nd_map (List.getElem?_eq_getElem hk2), nd_map (List.getElem?_eq_getElem hi)] at e
  have e2 := node_inj hM (List.getElem_mem hk2) (List.getElem_mem hi) e
  have h1 := at_of hM.nodup hk2
  rw [e2, at_of hM.nodup hi] at h1
  omega
/-- What is asked of the node at a place. -/
structure NdOk (i : Nat) (d : Nd) : Prop where
  live : d.1.isSome = true ∨ 0 < d.2.length
  few : d.2.length ≤ 256
  way : ∀ k (hk : k < d.2.length), 0 ≤ (d.2[k]'hk).2.1 ∧ (d.2[k]'hk).2.2 < i
  rise : ∀ k (hk : k + 1 < d.2.length), (d.2[k]'(Nat.lt_of_succ_lt hk)).1.toNat < (d.2[k + 1]'hk).1.toNat
theorem node_okk {M : List (List En)} (hM : Net M) {i : Nat} (hi : i < M.length) : NdOk i (nd (M.map (node M)) i) := by
  have hat : M[i]? = some M[i] := List.getElem?_eq_getElem hi
  have hg := hM.good _ (List.getElem_mem hi)
  obtain ⟨w1, w2, w3⟩ := node_ways (M := M) hg
  rw [nd_map hat]
  refine ⟨node_live hg, w1, fun k hk => ⟨w2 k hk, ?_⟩, fun k hk => w3 k hk⟩
  have hmem : (node M M[i]).2[k] ∈ (ways M[i]).map fun w => (w.1, w.2.1, at_ M w.2.2) := List.getElem_mem hk
  obtain ⟨x, hx, hxe⟩ := List.mem_map.1 hmem
  rw [← hxe]
  exact at_take (hM.ahead i _ hat x hx)
/-- One byte on, by the ways. -/
theorem step_find {M : List (List En)} (hM : Net M) {a : Nat} {r : List En} {c : UInt8} {t : List UInt8} {z : Int} (hr : M[a]? = some r) (h : (c :: t, z) ∈ r) : ∃ m tt, (nd (M.map (node M)) a).2.find? (fun w => w.1 == c) = some (c, m, tt) ∧ (∃ r', M[tt]? = some r' ∧ (t, z - m) ∈ r') ∧ 0 ≤ m ∧ m ≤ z := by
  have hg := hM.good r (List.mem_of_getElem? hr)
  have hb : (t, z) ∈ behind r c := mem_behind.2 h
  have hne : behind r c ≠ [] := fun q => by rw [q] at hb; cases hb
  have hw : (c, least (behind r c), low (behind r c)) ∈ ways r := mem_ways.2 ⟨hne, rfl, rfl⟩
  have hmem : low (behind r c) ∈ M := List.mem_of_mem_take (hM.ahead a r hr _ hw)
  refine ⟨least (behind r c), at_ M (low (behind r c)), ?_, ⟨low (behind r c), ?_, List.mem_map.2 ⟨(t, z), hb, rfl⟩⟩, way_pos hg hw, least_le hb⟩
  · rw [nd_map hr, find_way, if_neg hne]
  · rw [List.getElem?_eq_getElem (at_lt hmem), at_get hmem]
theorem end_at {M : List (List En)} (hM : Net M) {a : Nat} {r : List En} {z : Int} (hr : M[a]? = some r) (h : ([], z) ∈ r) : (nd (M.map (node M)) a).1 = some z := by
  rw [nd_map hr]
  exact (last_mem (hM.good r (List.mem_of_getElem? hr)).rise).2 h
theorem rests_pos {M : List (List En)} (hM : Net M) {a : Nat} {r : List En} (hr : M[a]? = some r) : ∀ e ∈ r, 0 ≤ e.2 := fun e he => by
  have hg := hM.good r (List.mem_of_getElem? hr)
  rw [← hg.least]
  exact least_le he
end Go.Proofs.Ytdjiknakbldggaa.Fs

/-
  No two nodes are alike, and the terms are reached: the walk of FstLeast.
-/
namespace Go.Proofs.Ytdjiknakbldggaa
open Go.RowKit Go.Maps

theorem Drew.cellD {w w' : World} (h : Drew w w') (p : Addr) : w'.cell? p = w.cell? p := by
  obtain ⟨q, rfl⟩ := h
  rfl
set_option maxRecDepth 100000 in
set_option maxHeartbeats 4000000 in
theorem least_far (w : World) (v : Value) (l : List Fs.En) (h : EnS w v l) (hb : ∀ e ∈ l, e.1.length ≤ 140737488355328) (hl : lightF l = false) :
    Calls Try.prog 6 #[v] w fun e w' => e = .returned (.bool true) ∧ Below w.heap.size w w' := by
  have HLI : Hid (∀ w', Below w.heap.size w w' → Calls Try.prog 9 #[v] w' fun e w'' => e = .returned (.bool false) ∧ Below w'.heap.size w' w'') := fun w' hbw => by
    have := light_any w' v l (h.below hbw (Nat.le_refl _)) hb
    rw [hl] at this
    exact this
  obtain ⟨a, cap, rfl, -, -, -⟩ := h
  clear hb hl
  generalize l.length = n at *
  go_enter Try.func6, Try.ntmps6
  go_wp2_with (first | (go_at_call 8; first | (refine (awake_any w2).mono ?_; rintro e9 w9 ⟨rfl, hb9⟩; have HB9 := Lib.hid (HB2.out.trans (hb9.mono HB2.out.size)); clear hb9) | (refine (awake_any w1).mono ?_; rintro e9 w9 ⟨rfl, hb9⟩; have HB9 := Lib.hid (HB1.out.trans (hb9.mono HB1.out.size)); clear hb9) | (refine (awake_any w).mono ?_; rintro e0 w0 ⟨rfl, hb0⟩; have HB0 := Lib.hid hb0; clear hb0)) | (go_at_call 9; go_loud ((refine (HLI.out w0 HB0.out).mono ?_; rintro e1 w1 ⟨rfl, hb1⟩; have HB1 := Lib.hid (HB0.out.trans (hb1.mono HB0.out.size)); clear hb1))))
  go_ret
  exact ⟨rfl, HB9.out⟩
set_option maxRecDepth 100000 in
set_option maxHeartbeats 4000000 in
theorem least_bad (w : World) (v : Value) (l : List Fs.En) (h : EnS w v l) (hb : ∀ e ∈ l, e.1.length ≤ 140737488355328) (hl : lightF l = true) (hr : Fs.right l ≠ 0) :
    Calls Try.prog 6 #[v] w fun e w' => e = .returned (.bool true) ∧ Below w.heap.size w w' := by
  have HLI : Hid (∀ w', Below w.heap.size w w' → Calls Try.prog 9 #[v] w' fun e w'' => e = .returned (.bool true) ∧ Below w'.heap.size w' w'') := fun w' hbw => by
    have := light_any w' v l (h.below hbw (Nat.le_refl _)) hb
    rw [hl] at this
    exact this
  have HRI : Hid (∀ w', Below w.heap.size w w' → Calls Try.prog 16 #[v] w' fun e w'' => e = .returned (.int .i64 (Fs.right l)) ∧ Below w'.heap.size w' w'') := fun w' hbw => right_any w' v l (h.below hbw (Nat.le_refl _))
  obtain ⟨a, cap, rfl, -, -, -⟩ := h
  have hr2 : ¬ Fs.right l = 0 := hr
  clear hb hl hr
  generalize Fs.right l = E at *
  generalize l.length = n at *
  go_enter Try.func6, Try.ntmps6
  go_wp2_with (first | (go_at_call 8; first | (refine (awake_any w2).mono ?_; rintro e9 w9 ⟨rfl, hb9⟩; have HB9 := Lib.hid (HB2.out.trans (hb9.mono HB2.out.size)); clear hb9) | (refine (awake_any w1).mono ?_; rintro e9 w9 ⟨rfl, hb9⟩; have HB9 := Lib.hid (HB1.out.trans (hb9.mono HB1.out.size)); clear hb9) | (refine (awake_any w).mono ?_; rintro e0 w0 ⟨rfl, hb0⟩; have HB0 := Lib.hid hb0; clear hb0)) | (go_at_call 9; go_loud ((refine (HLI.out w0 HB0.out).mono ?_; rintro e1 w1 ⟨rfl, hb1⟩; have HB1 := Lib.hid (HB0.out.trans (hb1.mono HB0.out.size)); clear hb1))) | (go_at_call 16; go_loud ((refine (HRI.out w1 HB1.out).mono ?_; rintro e2 w2 ⟨rfl, hb2⟩; have HB2 := Lib.hid (HB1.out.trans (hb2.mono HB1.out.size)); clear hb2))))
  go_ret
  exact ⟨rfl, HB9.out⟩
theorem NodO.below {w w' : World} {B : Nat} {v : Value} {N : List Fs.Nd} (h : NodO w B v N) (hb : Below w.heap.size w w') : NodO w' B v N :=
  h.kk (T := [51, 55]) (KindK.of_below hb) (by decide) (by decide)
theorem nd_take {N : List Fs.Nd} {i k : Nat} (hk : k < i) : Fs.nd (N.take i) k = Fs.nd N k := by
  unfold Fs.nd
  rw [List.getD_eq_getElem?_getD, List.getD_eq_getElem?_getD, List.getElem?_take_of_lt hk]
theorem take_snoc {N : List Fs.Nd} {i : Nat} (hi : i < N.length) : N.take (i + 1) = N.take i ++ [Fs.nd N i] := by
  rw [Fs.nd_at hi]
  exact List.take_succ_eq_append_getElem hi
/-- The cells of a node of those so far. -/
theorem nodS_at {w : World} {v : Value} {N : List Fs.Nd} (h : NodS w v N) {i : Nat} (hi : i < N.length) : ∃ g cap aw cw, v = .slice (some ⟨g, 0, none⟩) N.length cap ∧ WayS w (.slice aw (Fs.nd N i).2.length cw) (Fs.nd N i).2 ∧ w.cell? ⟨g, i * 3, none⟩ = some (.bool (Fs.nd N i).1.isSome) ∧ w.cell? ⟨g, i * 3 + 1, none⟩ = some (.int .i64 ((Fs.nd N i).1.getD 0)) ∧ w.cell? ⟨g, i * 3 + 2, none⟩ = some (.slice aw (Fs.nd N i).2.length cw) := by
  obtain ⟨a, cap, rfl, _, _, h4⟩ := h
  obtain ⟨g, rfl, _, h6⟩ := h4 (by omega)
  obtain ⟨wv, k1, k2, k3, k4⟩ := h6 i hi
  rw [Fs.nd_at hi]
  have k1' := k1
  obtain ⟨aw, cw, rfl, _⟩ := k1
  exact ⟨g, cap, aw, cw, rfl, k1', k2, k3, k4⟩
set_option maxRecDepth 100000 in
set_option maxHeartbeats 16000000 in
theorem least_main (w : World) (v : Value) (l : List Fs.En) (hL : Lst w v l) (hl : lightF l = true) (hr : Fs.right l = 0) :
    Calls Try.prog 6 #[v] w fun e w' => e = .returned (.bool true) ∧ Below w.heap.size w w' := by
  obtain ⟨h, hb, hm⟩ := hL
  obtain ⟨hn0, htot⟩ := light_of hl
  have hmx : ∀ e ∈ l, e.2 ≤ Fs.mx := hm
  have hfine := Fs.right_ok hr
  have hnet := Fs.nodes_net hfine.rise
  have hlw := Fs.fine_lw hfine hmx
  have hnl := Fs.nodes_length hfine.rise
  have HLI : Hid (∀ w', Below w.heap.size w w' → Calls Try.prog 9 #[v] w' fun e w'' => e = .returned (.bool true) ∧ Below w'.heap.size w' w'') := fun w' hbw => by
    have := light_any w' v l (h.below hbw (Nat.le_refl _)) hb
    rw [hl] at this
    exact this
  have HRI : Hid (∀ w', Below w.heap.size w w' → Calls Try.prog 16 #[v] w' fun e w'' => e = .returned (.int .i64 0) ∧ Below w'.heap.size w' w'') := fun w' hbw => by
    have := right_any w' v l (h.below hbw (Nat.le_refl _))
    rw [hr] at this
    exact this
  have HBU : Hid (∀ w', Below w.heap.size w w' → Calls Try.prog 10 #[v] w' fun e w'' => e = .returned (.tuple #[.string (bs (Fs.built l)), .int .i64 0]) ∧ Below w'.heap.size w' w'') := fun w' hbw => by
    have := build_any w' v l (h.below hbw (Nat.le_refl _)) hm
    unfold BuildPost at this
    rw [hr] at this
    exact this
  have HOP : Hid (∀ w1, Calls Try.prog 13 #[.string (bs (Fs.built l))] w1 fun e w' => ∃ db, e = .returned (.tuple #[.pointer (some ⟨db, 0, none⟩), .int .i64 0]) ∧ Below w1.heap.size w1 w' ∧ w1.heap.size ≤ db ∧ Dc w' db l) := fun w1 => open_built l w1 hr hmx htot
  obtain ⟨M, hM⟩ : ∃ M, M = Fs.nodes l := ⟨_, rfl⟩
  obtain ⟨N, hN⟩ : ∃ N, N = M.map (Fs.node M) := ⟨_, rfl⟩
  have hNM : (Fs.nodes l).map (Fs.node (Fs.nodes l)) = N := by rw [hN, hM]
  rw [← hM] at hnet hnl
  have hNl : N.length = M.length := by rw [hN, List.length_map]
  obtain ⟨C, hC⟩ : ∃ C, C = M.length := ⟨_, rfl⟩
  obtain ⟨L0, hL0⟩ : ∃ L0, L0 = Fs.least l := ⟨_, rfl⟩
  have HRO : Hid (∀ w1 db, Dc w1 db l → Calls Try.prog 20 #[.pointer (some ⟨db, 0, none⟩)] w1 fun e w' => e = .returned (.tuple #[.int .i64 ((C : Int) - 1), .int .i64 L0]) ∧ Below w1.heap.size w1 w') := fun w1 db hd => by
    have := root_dc l w1 db hd
    rw [← hM, ← hC, ← hL0] at this
    exact this
  have HCO : Hid (∀ w1 db, Dc w1 db l → Calls Try.prog 17 #[.pointer (some ⟨db, 0, none⟩)] w1 fun e w' => e = .returned (.tuple #[.int .i64 (l.length : Int), .int .i64 (C : Int)]) ∧ Below w1.heap.size w1 w') := fun w1 db hd => by
    have := count_dc l w1 db hd
    rw [← hM, ← hC] at this
    exact this
  have HND : Hid (∀ w1 db i, Dc w1 db l → i < C → Calls Try.prog 21 #[.pointer (some ⟨db, 0, none⟩), .int .i64 (i : Int)] w1 fun e w' => ∃ a c, e = .returned (.tuple #[.agg #[.bool (Fs.nd N i).1.isSome, .int .i64 ((Fs.nd N i).1.getD 0), .slice a (Fs.nd N i).2.length c], .bool true]) ∧ OwnY w' w1.heap.size (.slice a (Fs.nd N i).2.length c) (Fs.nd N i).2 ∧ Below w1.heap.size w1 w') := fun w1 db i hd hi => by
    have hd1 := hd.dic
    rw [hNM] at hd1
    have hi2 : i < N.length := by omega
    have hfew : N[i].2.length ≤ 1048576 := by
      have hi3 : i < M.length := by omega
      have := (Fs.node_ways (M := M) (hnet.good _ (List.getElem_mem hi3))).1
      have e : N[i] = Fs.node M M[i] := by
        subst hN
        exact List.getElem_map _
      rw [e]
      omega
    rw [Fs.nd_at hi2]
    refine (node_at w1 db N _ _ hd1 i hi2 hfew).mono ?_
    rintro e w' ⟨v', rfl, ho, hbw⟩
    obtain ⟨a, c, rfl, _⟩ := own_form ho
    exact ⟨a, c, rfl, ho, hbw⟩
  have HNO : Hid (∀ w1 db, Dc w1 db l → Calls Try.prog 21 #[.pointer (some ⟨db, 0, none⟩), .int .i64 (C : Int)] w1 fun e w' => e = .returned (.tuple #[.agg #[.bool false, .int .i64 0, .slice none 0 0], .bool false]) ∧ Below w1.heap.size w1 w') := fun w1 db hd => by
    have hd1 := hd.dic
    rw [hNM] at hd1
    exact node_out w1 db N _ _ hd1 _ (.inr (by omega))
  have HP : Hid (∀ i, i < C → Fs.NdOk i (Fs.nd N i)) := fun i hi => by
    rw [hN]
    exact Fs.node_okk hnet (by omega)
  have HAP : Hid (∀ i k, i < C → k < i → decide ((Fs.nd N k).1.isSome = (Fs.nd N i).1.isSome ∧ (Fs.nd N k).1.getD 0 = (Fs.nd N i).1.getD 0 ∧ (Fs.nd N k).2 = (Fs.nd N i).2) = false) := fun i k hi hk => by
    rw [hN]
    exact decide_eq_false (Fs.node_apart hnet (by omega) hk)
  have HST : Hid (∀ a r c t z, M[a]? = some r → (c :: t, z) ∈ r → ∃ m tt, (Fs.nd N a).2.find? (fun w => w.1 == c) = some (c, m, tt) ∧ (∃ r', M[tt]? = some r' ∧ (t, z - m) ∈ r') ∧ 0 ≤ m ∧ m ≤ z) := fun a r c t z h1 h2 => by
    rw [hN]
    exact Fs.step_find hnet h1 h2
  have HEN : Hid (∀ a r z, M[a]? = some r → ([], z) ∈ r → (Fs.nd N a).1 = some z) := fun a r z h1 h2 => by
    rw [hN]
    exact Fs.end_at hnet h1 h2
  have HRP : Hid (∀ (a : Nat) (r : List Fs.En), M[a]? = some r → ∀ e ∈ r, 0 ≤ e.2) := fun a r h1 => Fs.rests_pos hnet h1
  have HRT : Hid (∀ i (hi : i < l.length), ∃ c r, C = c + 1 ∧ M[c]? = some r ∧ (l[i].1, l[i].2 - L0) ∈ r) := fun i hi => by
    have hne : l ≠ [] := fun q => by rw [q] at hi; exact absurd hi (Nat.not_lt_zero _)
    have h1 := Fs.root_at hne
    rw [← hM] at h1
    have h2 : 0 < M.length := by
      rcases Nat.eq_zero_or_pos M.length with q | q
      · obtain ⟨K, hK⟩ := Fs.nodes_last hne
        rw [← hM] at hK
        rw [hK, List.length_append] at q
        simp at q
      · exact q
    exact ⟨M.length - 1, _, by omega, h1, by rw [hL0]; exact List.mem_map.2 ⟨l[i], List.getElem_mem hi, rfl⟩⟩
  have hLb := Fs.least_bd hlw
  rw [← hL0] at hLb
  have HBN : Hid (∀ i (hi : i < l.length), L0 ≤ l[i].2 ∧ l[i].2 ≤ 9223372036854775807 ∧ l[i].1.length ≤ 64) := fun i hi => ⟨by rw [hL0]; exact Fs.least_le (List.getElem_mem hi), hm _ (List.getElem_mem hi), (hfine.some _ (List.getElem_mem hi)).2⟩
  have hzero : ((C : Int) == 0) = ((l.length : Int) == 0) := by
    by_cases hne : l = []
    · rw [hC, hM, hne]; rfl
    · have h1 := List.length_pos_iff.2 hne
      obtain ⟨K, hK⟩ := Fs.nodes_last hne
      have h2 : 0 < C := by rw [hC, hM, hK, List.length_append]; simp
      have e1 : ((C : Int) == 0) = false := by rw [beq_eq_false_iff_ne]; omega
      have e2 : ((l.length : Int) == 0) = false := by rw [beq_eq_false_iff_ne]; omega
      rw [e1, e2]
  have hCb : C ≤ 601 := by omega
  have hwC : IntKind.i64.wrap ((C : Int) - 1) = (C : Int) - 1 := IntWalk.i64_in _ (by omega)
  have HCN : Hid (C = N.length) := by show _ = _; omega
  have HNML : Hid (N.length = M.length) := hNl
  obtain ⟨al, cl, rfl, hcl1, hcl2, hcell⟩ := h
  have HLC : Hid (∀ wx, Below w.heap.size w wx → 0 < l.length → ∃ g o, al = some ⟨g, o, none⟩ ∧ EnC wx g o l) := fun wx hbw h0 => by
    obtain ⟨g, o, h1, h2, h3⟩ := hcell h0
    exact ⟨g, o, h1, h3.below hbw h2⟩
  obtain ⟨n, hn⟩ : ∃ n, n = l.length := ⟨_, rfl⟩
  have HN := Lib.hid hn
  rw [← hn] at HLI HRI HBU HCO hn0 hzero ⊢
  obtain ⟨b0, hb0⟩ : ∃ b0, b0 = ((n : Int) == 0) := ⟨_, rfl⟩
  rw [← hb0] at hzero
  have hz2 : ((n : Int) == 0) = b0 := hb0.symm
  have hMM := Lib.hid hM
  have HLB := Lib.hid hLb
  obtain ⟨S, hS⟩ : ∃ S, S = bs (Fs.built l) := ⟨_, rfl⟩
  rw [← hS] at HBU HOP
  clear hb hm hmx htot hl hr hcl1 hcl2 hcell hn hfine hnet hlw hnl hM hN hNM hNl hC hL0 hLb hb0 hS
  go_enter Try.func6, Try.ntmps6
  go_wp2_with (first | (go_at_call 8; go_loud ((refine (awake_any w).mono ?_; rintro e0 w0 ⟨rfl, hb0⟩; have HB0 := Lib.hid hb0; clear hb0))) | (go_at_call 9; go_loud ((refine (HLI.out w0 HB0.out).mono ?_; rintro e1 w1 ⟨rfl, hb1⟩; have HB1 := Lib.hid (HB0.out.trans (hb1.mono HB0.out.size)); clear hb1))) | (go_at_call 16; go_loud ((refine (HRI.out w1 HB1.out).mono ?_; rintro e2 w2 ⟨rfl, hb2⟩; have HB2 := Lib.hid (HB1.out.trans (hb2.mono HB1.out.size)); clear hb2))) | (go_at_call 10; go_loud ((refine (HBU.out w2 HB2.out).mono ?_; rintro e3 w3 ⟨rfl, hb3⟩; have HB3 := Lib.hid (HB2.out.trans (hb3.mono HB2.out.size)); clear hb3))) | (go_at_call 13; go_loud ((refine (HOP.out w3).mono ?_; rintro e4 w4 ⟨db, rfl, hb4, hdb4, hd4⟩; have HB4 := Lib.hid (HB3.out.trans (hb4.mono HB3.out.size)); have HD4 := Lib.hid hd4; clear hb4 hdb4 hd4))) | (go_at_call 20; go_loud ((refine (HRO.out w4 db HD4.out).mono ?_; rintro e5 w5 ⟨rfl, hb5⟩; have HB5 := Lib.hid (HB4.out.trans (hb5.mono HB4.out.size)); have HD5 := Lib.hid (HD4.out.below hb5); clear hb5))) | (go_at_call 17; go_loud ((refine (HCO.out w5 db HD5.out).mono ?_; rintro e6 w6 ⟨rfl, hb6⟩; have HB6 := Lib.hid (HB5.out.trans (hb6.mono HB5.out.size)); have HD6 := Lib.hid (HD5.out.below hb6); clear hb6))))
  clear HLI HRI HBU HOP HRO HCO HB0 HB1 HB2 HB3 HB4 HB5 HD4 HD5
  go_loopg [11, 12] C (fun gg s11 s12 wx => ∃ (i : Nat) (vv : Value), i ≤ C ∧ gg = C - i ∧ vv = s11 ∧ s12 = .int .i64 (i : Int) ∧ Hid (NodO wx w6.heap.size vv (N.take i)) ∧ Hid (Below w6.heap.size w6 wx))
  case atStart => exact ⟨0, _, Nat.zero_le _, rfl, rfl, rfl, NodO.nil _ _, Below.refl _ _⟩
  case round =>
    obtain ⟨i, vv, hi, rfl, rfl, rfl, hO, hB⟩ := hrel
    by_cases hiC : i < C
    · have i1 : (i : Int) < (C : Int) := by omega
      have HCN1 := HND.out wr db i (HD6.out.below hB.out) hiC
      have hpk := HP.out i hiC
      have hp1 := hpk.live
      have hp2 := hpk.few
      have hap := fun k hk => HAP.out i k hiC hk
      obtain ⟨av, cv, rfl⟩ : ∃ a c, vv = .slice a i c := by
        obtain ⟨vs, hvl, hvo, _⟩ := hO.out
        obtain ⟨a, c, rfl, _⟩ := own_form hvo
        rw [List.length_take, Nat.min_eq_left (by rw [← HCN.out]; omega)]
        exact ⟨a, c, rfl⟩
      have hsn := take_snoc (N := N) (i := i) (by rw [← HCN.out]; exact hiC)
      obtain ⟨d, hd⟩ : ∃ d, d = Fs.nd N i := ⟨_, rfl⟩
      rw [← hd] at HCN1 hp1 hp2 hpk hap hsn
      obtain ⟨f, hf⟩ : ∃ f, f = d.1.isSome := ⟨_, rfl⟩
      obtain ⟨o, ho⟩ : ∃ o, o = d.1.getD 0 := ⟨_, rfl⟩
      obtain ⟨nw, hnw⟩ : ∃ nw, nw = d.2.length := ⟨_, rfl⟩
      rw [← hf, ← ho, ← hnw] at HCN1
      rw [← hf, ← hnw] at hp1
      have HCN1 := Lib.hid HCN1
      have HPK := Lib.hid hpk
      have HAPD := Lib.hid hap
      have HF := Lib.hid hf
      have HO1 := Lib.hid ho
      have HNW := Lib.hid hnw
      have HSN := Lib.hid hsn
      rw [← hnw] at hp2
      clear hpk hap hd hf ho hnw hsn
      have HOO := Lib.hid hO.out
      have HBB := Lib.hid hB.out
      clear hO hB
      obtain ⟨wo, hwo⟩ : ∃ wo, wo = wr := ⟨_, rfl⟩
      rw [← hwo] at HCN1 HOO HBB ⊢
      have HBO : Hid (w6.heap.size ≤ wo.heap.size) := HBB.out.size
      clear hwo
      cases f
      case' false =>
        have hnz : ((nw : Int) == 0) = false := by
          rw [beq_eq_false_iff_ne]
          rcases hp1 with q | q
          · cases q
          · omega
        clear hp1
        go_wp2_with (go_at_call 21; go_loud ((refine HCN1.out.mono ?_; rintro e1 u1 ⟨aw, cw, rfl, hy1, hb1⟩; have HY1 := Lib.hid hy1; have HB1 := Lib.hid hb1; clear hy1 hb1)))
        have hbx : RowT 51 (u1.alloc (.cells #[.bool false, .int .i64 o, .slice aw nw cw] 51)) u1.heap.size #[.bool false, .int .i64 o, .slice aw nw cw] := Go.Deep.blk_alloc_new _ _
        have HBX : Hid (∃ fv, fv = d.1.isSome ∧ RowT 51 (u1.alloc (.cells #[.bool false, .int .i64 o, .slice aw nw cw] 51)) u1.heap.size #[.bool fv, .int .i64 o, .slice aw nw cw]) := ⟨false, HF.out, hbx⟩
        have HB2 : Hid (Below wo.heap.size wo (u1.alloc (.cells #[.bool false, .int .i64 o, .slice aw nw cw] 51))) := HB1.out.alloc HB1.out.size _
        have HY2 : Hid (OwnY (u1.alloc (.cells #[.bool false, .int .i64 o, .slice aw nw cw] 51)) wo.heap.size (.slice aw nw cw) d.2) := World.ownsRow.alloc HY1.out _
        clear HB1 HY1 hbx HF
        generalize u1.alloc (.cells #[.bool false, .int .i64 o, .slice aw nw cw] 51) = W at *
        generalize u1.heap.size = nb at *
        clear hnz
      case' true =>
        clear hp1
        go_wp2_with (go_at_call 21; go_loud ((refine HCN1.out.mono ?_; rintro e1 u1 ⟨aw, cw, rfl, hy1, hb1⟩; have HY1 := Lib.hid hy1; have HB1 := Lib.hid hb1; clear hy1 hb1)))
        have hbx : RowT 51 (u1.alloc (.cells #[.bool true, .int .i64 o, .slice aw nw cw] 51)) u1.heap.size #[.bool true, .int .i64 o, .slice aw nw cw] := Go.Deep.blk_alloc_new _ _
        have HBX : Hid (∃ fv, fv = d.1.isSome ∧ RowT 51 (u1.alloc (.cells #[.bool true, .int .i64 o, .slice aw nw cw] 51)) u1.heap.size #[.bool fv, .int .i64 o, .slice aw nw cw]) := ⟨true, HF.out, hbx⟩
        have HB2 : Hid (Below wo.heap.size wo (u1.alloc (.cells #[.bool true, .int .i64 o, .slice aw nw cw] 51))) := HB1.out.alloc HB1.out.size _
        have HY2 : Hid (OwnY (u1.alloc (.cells #[.bool true, .int .i64 o, .slice aw nw cw] 51)) wo.heap.size (.slice aw nw cw) d.2) := World.ownsRow.alloc HY1.out _
        clear HB1 HY1 hbx HF
        generalize u1.alloc (.cells #[.bool true, .int .i64 o, .slice aw nw cw] 51) = W at *
        generalize u1.heap.size = nb at *
      all_goals
        go_loopg [15] nw (fun gg s15 wx => ∃ k : Nat, k ≤ nw ∧ gg = nw - k ∧ s15 = .int .i64 (k : Int) ∧ Hid (Drew W wx))
        case atStart => exact ⟨0, Nat.zero_le _, rfl, rfl, Drew.refl _⟩
        case round =>
          obtain ⟨k, hk, rfl, rfl, hD⟩ := hrel
          obtain ⟨fv, hfv, hbx⟩ := HBX.out
          have hdc := hD.out.cellD
          have b2 : wr.cell? ⟨nb, 2, none⟩ = some (.slice aw nw cw) := (hdc _).trans (hbx.cell 2)
          have b2d : wr.drew.cell? ⟨nb, 2, none⟩ = some (.slice aw nw cw) := b2
          by_cases hkn : k < nw
          · have k1 : (k : Int) < (nw : Int) := by omega
            have k2 : (0 : Int) ≤ (k : Int) := by omega
            have kl : k < d.2.length := by rw [← HNW.out]; exact hkn
            have hws := HY2.out.ways
            obtain ⟨aw', cw', e1, _, _, e4⟩ := hws
            injection e1 with e5 e6 e7
            obtain ⟨gw, hgw, _, hwc⟩ := e4 (by omega)
            rw [← e5] at hgw
            subst hgw
            obtain ⟨m1, m2, m3⟩ := hwc k kl
            obtain ⟨p1, p2⟩ := HPK.out.way k kl
            have n1 : wr.cell? ⟨gw, k * 3, none⟩ = some (.int .i64 ((d.2[k]'kl).1.toNat : Nat)) := (hdc _).trans m1
            have n2 : wr.cell? ⟨gw, k * 3 + 1, none⟩ = some (.int .i64 (d.2[k]'kl).2.1) := (hdc _).trans m2
            have n3 : wr.cell? ⟨gw, k * 3 + 2, none⟩ = some (.int .i64 ((d.2[k]'kl).2.2 : Nat)) := (hdc _).trans m3
            have hd1 : decide ((i : Int) ≤ (((d.2[k]'kl).2.2 : Nat) : Int)) = false := decide_eq_false (by omega)
            have hd2 : decide ((((d.2[k]'kl).2.2 : Nat) : Int) < 0) = false := decide_eq_false (by omega)
            have hd3 : decide ((d.2[k]'kl).2.1 < 0) = false := decide_eq_false (by omega)
            have HDW := Lib.hid hD.out
            by_cases hk0 : k = 0
            · subst hk0
              have n1d : wr.cell? ⟨gw, 0, none⟩ = some (.int .i64 ((d.2[0]'kl).1.toNat : Nat)) := by simpa using n1
              have n2d : wr.cell? ⟨gw, 1, none⟩ = some (.int .i64 (d.2[0]'kl).2.1) := by simpa using n2
              have n3d : wr.cell? ⟨gw, 2, none⟩ = some (.int .i64 ((d.2[0]'kl).2.2 : Nat)) := by simpa using n3
              have n1e : wr.drew.cell? ⟨gw, 0, none⟩ = some (.int .i64 ((d.2[0]'kl).1.toNat : Nat)) := n1d
              have n2e : wr.drew.cell? ⟨gw, 1, none⟩ = some (.int .i64 (d.2[0]'kl).2.1) := n2d
              have n3e : wr.drew.cell? ⟨gw, 2, none⟩ = some (.int .i64 ((d.2[0]'kl).2.2 : Nat)) := n3d
              have hd1n : decide (i ≤ (d.2[0]'kl).2.2) = false := decide_eq_false (by omega)
              generalize (d.2[0]'kl).1.toNat = x1 at *
              generalize (d.2[0]'kl).2.1 = x2 at *
              generalize (d.2[0]'kl).2.2 = x3 at *
              clear hbx hdc e4 e5 e6 e7 hwc m1 m2 m3 hD n1 n2 n3
              go_wp2_with fail
              go_quiet (fail)
              go_wp2_with fail
              go_roundg (nw - 1)
              case rel => exact ⟨1, by omega, rfl, by go_num, (by show Drew _ _; first | exact HDW.out.trans ⟨_, rfl⟩)⟩
              case measure => omega
            · have hd4 : decide (0 < (k : Int)) = true := decide_eq_true (by omega)
              have hd4n : decide (0 < k) = true := decide_eq_true (by omega)
              have hrise := HPK.out.rise (k - 1) (by omega)
              have hkk : k - 1 + 1 = k := by omega
              obtain ⟨q1, q2, q3⟩ := hwc (k - 1) (by omega)
              have o1 : wr.cell? ⟨gw, (k - 1) * 3, none⟩ = some (.int .i64 ((d.2[k - 1]'(by omega)).1.toNat : Nat)) := (hdc _).trans q1
              have hlt : (d.2[k - 1]'(by omega)).1.toNat < (d.2[k]'kl).1.toNat := by
                have e : d.2[k - 1 + 1]'(by omega) = d.2[k]'kl := by congr 1
                rw [← e]
                exact hrise
              have hd5 : decide (((d.2[k]'kl).1.toNat : Int) ≤ ((d.2[k - 1]'(by omega)).1.toNat : Int)) = false := decide_eq_false (by omega)
              have hd5n : decide ((d.2[k]'kl).1.toNat ≤ (d.2[k - 1]'(by omega)).1.toNat) = false := decide_eq_false (by omega)
              have hd1n : decide (i ≤ (d.2[k]'kl).2.2) = false := decide_eq_false (by omega)
              have kw : IntKind.i64.wrap ((k : Int) - 1) = ((k - 1 : Nat) : Int) := by rw [IntWalk.i64_in _ (by omega)]; omega
              have kw2 : ((k - 1 : Nat) : Int) < (nw : Int) := by omega
              have kw3 : (0 : Int) ≤ ((k - 1 : Nat) : Int) := by omega
              have n1d : wr.drew.cell? ⟨gw, k * 3, none⟩ = some (.int .i64 ((d.2[k]'kl).1.toNat : Nat)) := n1
              have n2d : wr.drew.cell? ⟨gw, k * 3 + 1, none⟩ = some (.int .i64 (d.2[k]'kl).2.1) := n2
              have n3d : wr.drew.cell? ⟨gw, k * 3 + 2, none⟩ = some (.int .i64 ((d.2[k]'kl).2.2 : Nat)) := n3
              have o1d : wr.drew.cell? ⟨gw, (k - 1) * 3, none⟩ = some (.int .i64 ((d.2[k - 1]'(by omega)).1.toNat : Nat)) := o1
              generalize (d.2[k - 1]'(by omega)).1.toNat = x0 at *
              generalize (d.2[k]'kl).1.toNat = x1 at *
              generalize (d.2[k]'kl).2.1 = x2 at *
              generalize (d.2[k]'kl).2.2 = x3 at *
              clear hbx hdc e4 e5 e6 e7 hwc m1 m2 m3 hD hrise hkk q1 q2 q3 hlt
              go_wp2_with fail
              go_quiet (fail)
              go_wp2_with fail
              go_roundg (nw - (k + 1))
              case rel => exact ⟨k + 1, by omega, rfl, by go_num, (by show Drew _ _; first | exact HDW.out.trans ⟨_, rfl⟩)⟩
              case measure => omega
          · obtain rfl : k = nw := by omega
            have k1 : ¬ (k : Int) < (k : Int) := by omega
            have hbl := hD.out.below
            have HBX3 : Hid (RowT 51 wr nb #[.bool fv, .int .i64 o, .slice aw k cw]) := hbx.keep (hbl.block _ hbx.lt)
            have HFV := Lib.hid hfv
            have HY3 : Hid (OwnY wr wo.heap.size (.slice aw k cw) d.2) := ownsRow_keep HY2.out fun q hq => hbl.block q (own_kind HY2.out q hq).2.1
            have HB3 : Hid (Below wo.heap.size wo wr) := HB2.out.trans (hbl.mono HB2.out.size)
            have HO3 : Hid (NodO wr w6.heap.size (.slice av i cv) (N.take i)) := HOO.out.below HB3.out
            have HBW3 : Hid (Below w6.heap.size w6 wr) := HBB.out.trans (HB3.out.mono HBB.out.size)
            clear hbl hdc hbx hfv hD HBX HY2 HB2 HB3 HOO HBB
            have HNW3 : Hid (d.2.length ≤ 256) := HPK.out.few
            go_wp2_with fail
            generalize wr = W3 at *
            go_loopg [16] i (fun gg s16 wx => ∃ k' : Nat, k' ≤ i ∧ gg = i - k' ∧ s16 = .int .i64 (k' : Int) ∧ Hid (Below W3.heap.size W3 wx))
            case atStart => exact ⟨0, Nat.zero_le _, rfl, rfl, Below.refl _ _⟩
            case round =>
              obtain ⟨x, hx, rfl, rfl, hBx⟩ := hrel
              by_cases hxi : x < i
              · have x1 : (x : Int) < (i : Int) := by omega
                have hlen : (N.take i).length = i := by rw [List.length_take, ← HCN.out]; omega
                obtain ⟨gn, cn, a2, c2, e1, hws2, m0, m1, m2⟩ := nodS_at (HO3.out.below hBx.out).nods (i := x) (by rw [hlen]; exact hxi)
                rw [hlen] at e1
                injection e1 with e2 _ e3
                subst e2 e3
                rw [nd_take hxi] at hws2 m0 m1 m2
                have hap := HAPD.out x hxi
                have hfew2 : (Fs.nd N x).2.length ≤ 256 := (HP.out x (by omega)).few
                have hbx := HBX3.out.keep (hBx.out.block _ HBX3.out.lt)
                have b0 := hbx.cell 0
                have b1 := hbx.cell 1
                have b2 : wr.cell? ⟨nb, 2, none⟩ = some (.slice aw k cw) := hbx.cell 2
                have hwy : WayS wr (.slice aw k cw) d.2 := HY3.out.ways.below hBx.out (Nat.le_refl _)
                obtain ⟨f2, hf2⟩ : ∃ f2, f2 = (Fs.nd N x).1.isSome := ⟨_, rfl⟩
                obtain ⟨o2, ho2⟩ : ∃ o2, o2 = (Fs.nd N x).1.getD 0 := ⟨_, rfl⟩
                obtain ⟨n2, hn2⟩ : ∃ n2, n2 = (Fs.nd N x).2.length := ⟨_, rfl⟩
                rw [← hf2] at m0
                rw [← ho2] at m1
                rw [← hn2] at m2
                have HAK : Hid (∀ W', Below wr.heap.size wr W' → Calls Try.prog 22 #[.agg #[.bool f2, .int .i64 o2, .slice a2 n2 c2], .agg #[.bool fv, .int .i64 o, .slice aw k cw]] W' fun e w'' => e = .returned (.bool false) ∧ Below W'.heap.size W' w'') := fun W' hb' => by
                  have := alikeN_any W' _ _ f2 fv o2 o _ _ (hws2.below hb' (Nat.le_refl _)) (hwy.below hb' (Nat.le_refl _)) (by omega) (by have := HNW3.out; omega)
                  rw [hf2, ho2, HFV.out, HO1.out, hap] at this
                  rw [hn2, hf2, ho2, HFV.out, HO1.out]
                  exact this
                have hcells : ∀ W', Below wr.heap.size wr W' → W'.cell? ⟨gn, x * 3, none⟩ = some (.bool f2) ∧ W'.cell? ⟨gn, x * 3 + 1, none⟩ = some (.int .i64 o2) ∧ W'.cell? ⟨gn, x * 3 + 2, none⟩ = some (.slice a2 n2 c2) ∧ W'.cell? ⟨nb, 0, none⟩ = some (.bool fv) ∧ W'.cell? ⟨nb, 1, none⟩ = some (.int .i64 o) ∧ W'.cell? ⟨nb, 2, none⟩ = some (.slice aw k cw) := fun W' hb' => by
                  have hgl : gn < wr.heap.size := World.block_lt_of_cell? _ (a := ⟨gn, x * 3, none⟩) m0
                  have hnl : nb < wr.heap.size := hbx.lt
                  exact ⟨(hb'.cell (p := ⟨gn, x * 3, none⟩) hgl).trans m0, (hb'.cell (p := ⟨gn, x * 3 + 1, none⟩) hgl).trans m1, (hb'.cell (p := ⟨gn, x * 3 + 2, none⟩) hgl).trans m2, (hb'.cell (p := ⟨nb, 0, none⟩) hnl).trans b0, (hb'.cell (p := ⟨nb, 1, none⟩) hnl).trans b1, (hb'.cell (p := ⟨nb, 2, none⟩) hnl).trans b2⟩
                have HS := Lib.hid hcells
                clear hbx hws2 hwy hap hfew2 hf2 ho2 hn2 hcells hlen b0 b1 b2 m0 m1 m2
                go_wp2_with fail
                go_region_held3 (fun W' => (W'.cell? ⟨gn, x * 3, none⟩ = some (.bool f2) ∧ W'.cell? ⟨gn, x * 3 + 1, none⟩ = some (.int .i64 o2) ∧ W'.cell? ⟨gn, x * 3 + 2, none⟩ = some (.slice a2 n2 c2) ∧ W'.cell? ⟨nb, 0, none⟩ = some (.bool fv) ∧ W'.cell? ⟨nb, 1, none⟩ = some (.int .i64 o) ∧ W'.cell? ⟨nb, 2, none⟩ = some (.slice aw k cw)) ∧ Below wr.heap.size wr W') (first | exact ⟨HS.out _ (Below.refl _ _).drew, (Below.refl _ _).drew⟩ | exact ⟨HS.out _ hb5, hb5⟩ | exact ⟨HS.out _ (Below.refl _ _), Below.refl _ _⟩) (first | (go_at_call 22; refine (HAK.out _ (by first | assumption | exact (Below.refl _ _).drew)).mono ?_; rintro e5 u5 ⟨rfl, hb50⟩; have hb5 : Below wr.heap.size wr u5 := ((Below.refl _ _).drew).trans (hb50.mono (Nat.le_refl _))))
                have HB5 : Hid (Below W3.heap.size W3 u5) := hBx.out.trans (hb5.mono hBx.out.size)
                clear hb5
                go_wp2_with fail
                go_roundg (i - (x + 1))
                case rel => exact ⟨x + 1, by omega, rfl, by go_num, HB5⟩
                case measure => omega
              · obtain rfl : x = i := by omega
                have x1 : ¬ (x : Int) < (x : Int) := by omega
                have hlen : (N.take x).length = x := by rw [List.length_take, ← HCN.out]; omega
                have hO4 := HO3.out.below hBx.out
                have hB4 : Below w6.heap.size w6 wr := HBW3.out.trans (hBx.out.mono HBW3.out.size)
                have hbx := HBX3.out.keep (hBx.out.block _ HBX3.out.lt)
                have hY4 : OwnY wr wo.heap.size (.slice aw k cw) d.2 := ownsRow_keep HY3.out fun q hq => hBx.out.block q (own_kind HY3.out q hq).2.1
                have HY4 : Hid (OwnY wr w6.heap.size (.slice aw k cw) d.2) := ownsRow_base hY4 HBO.out
                have HB4 := Lib.hid hB4
                obtain ⟨vs, hvl, hvo, hvy⟩ := hO4
                rw [hlen] at hvl hvo
                have hPUT : ∀ g cap w5, w5.ownsRow w6.heap.size 51 3 (.slice (some ⟨g, 0, none⟩) (x + 1) cap) (x + 1) (ndV (N.take x) vs ++ [.bool fv, .int .i64 o, .slice aw k cw]) → Grew wr w5 (.slice av x cv) (.slice (some ⟨g, 0, none⟩) (x + 1) cap) → NodO w5 w6.heap.size (.slice (some ⟨g, 0, none⟩) (x + 1) cap) (N.take (x + 1)) ∧ Below w6.heap.size w6 w5 := fun g cap w5 h1 h2 => by
                  have kt : KeptT [55] w6.heap.size wr w5 := h2.keptT hvo (by decide)
                  have k2 := KindK.of_kt kt
                  have hvy2 : ∀ i' (h : i' < (N.take x).length) (h' : i' < vs.length), OwnY w5 w6.heap.size vs[i'] (N.take x)[i'].2 := fun i' h h' => ownsRow_kk (hvy i' h h') k2 (by decide)
                  rw [HFV.out, HO1.out] at h1
                  have h3 := NodO.put (w := w5) (N := N.take x) (d := d) (by rw [hlen]; exact hvl) hvy2 (ownsRow_kk HY4.out k2 (by decide)) (by rw [hlen]; exact h1) (fun _ _ _ _ _ _ => rfl)
                  rw [hlen] at h3
                  rw [HSN.out]
                  exact ⟨h3, h2.below HB4.out HB4.out.size (fun q hq => (hvo.lt q hq).1)⟩
                have HPUT := Lib.hid hPUT
                have HVO := Lib.hid hvo
                have b0 := hbx.cell 0
                have b1 := hbx.cell 1
                have b2 : wr.cell? ⟨nb, 2, none⟩ = some (.slice aw k cw) := hbx.cell 2
                obtain ⟨iN, hiN, hyN0, hyN1, hyN2⟩ := info_parts Try.infoN
                have hsz4 := HB4.out.size
                clear hPUT hvl hvo hvy hY4 hB4 hbx hlen
                go_wp2_with (at_builtin; go_loud ((refine wpList_pushR rfl _ _ 48 51 rfl iN _ 3 40 Try.underlying48 hiN hyN0 hyN1 hyN2 rfl (by decide) w6.heap.size hsz4 (.slice av x cv) x (ndV (N.take x) vs) rfl HVO.out [.bool fv, .int .i64 o, .slice aw k cw] rfl (one_of rfl) (by first | rfl | (rw [World.size_alloc]; rfl)) (by omega) (by omega) ?_; intro g5 cap5 w5 hown5 hgr5; have HP5 := Lib.hid (HPUT.out g5 cap5 w5 hown5 hgr5); clear hown5 hgr5)))
                go_roundg (C - (x + 1))
                case rel => exact ⟨x + 1, _, by omega, rfl, rfl, by go_num, HP5.out.1, HP5.out.2⟩
                case measure => omega
    · obtain rfl : i = C := by omega
      have i1 : ¬ (i : Int) < (i : Int) := by omega
      have hO2 := hO.out
      rw [List.take_of_length_le (by rw [← HCN.out]; exact Nat.le_refl _)] at hO2
      obtain ⟨av, cv, rfl⟩ : ∃ a c, vv = .slice a i c := by
        obtain ⟨vs, hvl, hvo, _⟩ := hO2
        obtain ⟨a, c, rfl, _⟩ := own_form hvo
        rw [← HCN.out]
        exact ⟨a, c, rfl⟩
      have HNO1 := Lib.hid (HNO.out wr db (HD6.out.below hB.out))
      have HBW : Hid (Below w.heap.size w wr) := HB6.out.trans (hB.out.mono HB6.out.size)
      have HO2 := Lib.hid hO2
      clear hO hO2 hB HND HNO HP HAP HD6
      go_wp2_with (go_at_call 21; go_loud ((refine HNO1.out.mono ?_; rintro e1 u1 ⟨rfl, hb1⟩; have HB1 := Lib.hid hb1; clear hb1)))
      have HB5 : Hid (Below wr.heap.size wr (u1.alloc (.cells #[.bool false, .int .i64 0, .slice none 0 0] 51))) := HB1.out.alloc HB1.out.size _
      have HO5 : Hid (NodO (u1.alloc (.cells #[.bool false, .int .i64 0, .slice none 0 0] 51)) w6.heap.size (.slice av i cv) N) := HO2.out.below HB5.out
      have HW5 : Hid (Below w.heap.size w (u1.alloc (.cells #[.bool false, .int .i64 0, .slice none 0 0] 51))) := HBW.out.trans (HB5.out.mono HBW.out.size)
      clear HB1 HNO1 HO2 HBW HB5
      generalize u1.alloc (.cells #[.bool false, .int .i64 0, .slice none 0 0] 51) = W5 at *
      go_loopg [19] n (fun gg s19 wx => ∃ j : Nat, j ≤ n ∧ gg = n - j ∧ s19 = .int .i64 (j : Int) ∧ Hid (Below W5.heap.size W5 wx))
      case atStart => exact ⟨0, Nat.zero_le _, rfl, rfl, Below.refl _ _⟩
      case round =>
        obtain ⟨j, hj, rfl, rfl, hB⟩ := hrel
        by_cases hjn : j < n
        · have j1 : (j : Int) < (n : Int) := by omega
          have jl : j < l.length := by rw [← HN.out]; exact hjn
          obtain ⟨g, o, rfl, hce⟩ := HLC.out wr (HW5.out.trans (hB.out.mono HW5.out.size)) (by omega)
          obtain ⟨c1, c2⟩ := hce j jl
          have hgl : g < wr.heap.size := World.block_lt_of_cell? _ (a := ⟨g, o + j * 2, none⟩) c1
          obtain ⟨c0, r0, hc0, hr0, hm0⟩ := HRT.out j jl
          obtain ⟨hz1, hz2, hz3⟩ := HBN.out j jl
          obtain ⟨t, z, htz⟩ : ∃ t z, l[j] = (t, z) := ⟨_, _, rfl⟩
          rw [htz] at c1 c2 hm0 hz1 hz2 hz3
          dsimp only at c1 c2 hm0 hz1 hz2 hz3
          obtain ⟨tl, htl⟩ : ∃ tl, tl = t.length := ⟨_, rfl⟩
          have HTL := Lib.hid htl
          have hsz : (bs t).size = tl := by rw [bs_size, htl]
          have HGET : Hid (∀ k (hk : k < (bs t).size) (hk' : k < t.length), (bs t)[k]'hk = t[k]'hk') := fun k hk hk' => bs_get t k hk hk'
          obtain ⟨T, hT⟩ : ∃ T, T = bs t := ⟨_, rfl⟩
          rw [← hT] at c1 hsz HGET
          have hL0 := HLB.out.1
          have HO6 : Hid (NodO wr w6.heap.size (.slice av i cv) N) := HO5.out.below hB.out
          have HC1 : Hid (∀ W', Below wr.heap.size wr W' → W'.cell? ⟨g, o + j * 2, none⟩ = some (.string T) ∧ W'.cell? ⟨g, o + j * 2 + 1, none⟩ = some (.int .i64 z)) := fun W' hb' => ⟨(hb'.cell (p := ⟨g, o + j * 2, none⟩) hgl).trans c1, (hb'.cell (p := ⟨g, o + j * 2 + 1, none⟩) hgl).trans c2⟩
          have HB := Lib.hid hB.out
          have HRR : Hid (M[c0]? = some r0 ∧ (t, z - L0) ∈ r0) := ⟨hr0, hm0⟩
          clear hce hr0 hm0 htz htl hT hB c1 c2
          go_wp2_with fail
          generalize wr = wq at *
          go_loopg [20, 21, 22] tl (fun gg s20 s21 s22 wx => ∃ (k a : Nat) (p : Int), k ≤ tl ∧ gg = tl - k ∧ s20 = .int .i64 (a : Int) ∧ s21 = .int .i64 p ∧ s22 = .int .i64 (k : Int) ∧ 0 ≤ p ∧ p ≤ z ∧ Hid (∃ r, M[a]? = some r ∧ (t.drop k, z - p) ∈ r) ∧ Hid (Below wq.heap.size wq wx))
          case atStart => exact ⟨0, c0, L0, Nat.zero_le _, rfl, congrArg (Value.int .i64) (by omega), rfl, rfl, hL0, hz1, ⟨r0, HRR.out.1, HRR.out.2⟩, Below.refl _ _⟩
          case round =>
            clear HRR hc0
            obtain ⟨k, a, p, hk, rfl, rfl, rfl, rfl, hp0, hpz, hM, hBx⟩ := hrel
            obtain ⟨d1, d2⟩ := HC1.out wr hBx.out
            obtain ⟨r, hra, hmem⟩ := hM.out
            have haM : a < N.length := by
              have := (List.getElem?_eq_some_iff.1 hra).1
              have := HNML.out
              omega
            obtain ⟨gn, cn, a2, c2, e1, hws, m0, m1, m2⟩ := nodS_at (HO6.out.below hBx.out).nods haM
            rw [← HCN.out] at e1
            injection e1 with e2 _ e3
            subst e2 e3
            have a1 : (a : Int) < (i : Int) := by have := HCN.out; omega
            have a0 : (0 : Int) ≤ (a : Int) := by omega
            have hgn : gn < wr.heap.size := World.block_lt_of_cell? _ (a := ⟨gn, a * 3, none⟩) m0
            have hgq : g < wr.heap.size := World.block_lt_of_cell? _ (a := ⟨g, o + j * 2, none⟩) d1
            by_cases hkt : k < tl
            · have k1 : (k : Int) < (tl : Int) := by omega
              have ks : k < t.length := by rw [← HTL.out]; exact hkt
              have kb : k < T.size := by omega
              obtain ⟨c, hc⟩ : ∃ c, c = t[k]'ks := ⟨_, rfl⟩
              have b1 : T[k]'kb = c := (HGET.out k kb ks).trans hc.symm
              have hdr : t.drop k = c :: t.drop (k + 1) := by subst hc; exact List.drop_eq_getElem_cons ks
              rw [hdr] at hmem
              obtain ⟨m, tt, hfind, hnext, hm0, hmz⟩ := HST.out a r c _ _ hra hmem
              have hcw64 : wrap64 (c.toNat : Int) = (c.toNat : Int) := by
                have := c.toNat_lt
                unfold wrap64
                omega
              have hcw : IntKind.i64.wrap (c.toNat : Int) = (c.toNat : Int) := IntWalk.i64_in _ (by have := c.toNat_lt; omega)
              have htw : ¬ ((tt : Int) < 0) := by omega
              have hpm : IntKind.i64.wrap (p + m) = p + m := IntWalk.i64_in _ (by omega)
              have HNX : Hid (∃ r, M[tt]? = some r ∧ (t.drop (k + 1), z - (p + m)) ∈ r) := by
                obtain ⟨r', q1, q2⟩ := hnext
                exact ⟨r', q1, by rw [show z - (p + m) = z - p - m by omega]; exact q2⟩
              obtain ⟨n2, hn2⟩ : ∃ n2, n2 = (Fs.nd N a).2.length := ⟨_, rfl⟩
              rw [← hn2] at m2
              have HFD : Hid (∀ W', Below wr.heap.size wr W' → Calls Try.prog 23 #[.slice a2 n2 c2, .int .i64 (c.toNat : Nat)] W' fun e w'' => e = .returned (.agg #[.int .i64 (c.toNat : Nat), .int .i64 m, .int .i64 (tt : Nat)]) ∧ Below W'.heap.size W' w'') := fun W' hb' => by
                have := find_any W' _ _ c (hws.below hb' (Nat.le_refl _))
                rw [hfind] at this
                rw [hn2]
                exact this
              have HS : Hid (∀ W', Below wr.heap.size wr W' → W'.cell? ⟨gn, a * 3 + 2, none⟩ = some (.slice a2 n2 c2) ∧ W'.cell? ⟨g, o + j * 2, none⟩ = some (.string T)) := fun W' hb' => ⟨(hb'.cell (p := ⟨gn, a * 3 + 2, none⟩) hgn).trans m2, (hb'.cell (p := ⟨g, o + j * 2, none⟩) hgq).trans d1⟩
              have HBX := Lib.hid hBx.out
              clear hws hfind hnext hmem hra hM hBx hdr hc m0 m1 m2 hn2 d2 haM
              go_wp2_with fail
              go_region_held3 (fun W' => (W'.cell? ⟨gn, a * 3 + 2, none⟩ = some (.slice a2 n2 c2) ∧ W'.cell? ⟨g, o + j * 2, none⟩ = some (.string T)) ∧ Below wr.heap.size wr W') (first | exact ⟨HS.out _ hb8, hb8⟩ | exact ⟨HS.out _ (Below.refl _ _).drew, (Below.refl _ _).drew⟩ | exact ⟨HS.out _ hb5, hb5⟩ | exact ⟨HS.out _ (hb5.alloc hb5.size _), hb5.alloc hb5.size _⟩ | exact ⟨HS.out _ (hb5.alloc hb5.size _).drew, (hb5.alloc hb5.size _).drew⟩ | exact ⟨HS.out _ ((Below.refl _ _).alloc (Nat.le_refl _) _).drew, ((Below.refl _ _).alloc (Nat.le_refl _) _).drew⟩ | exact ⟨HS.out _ ((Below.refl _ _).alloc (Nat.le_refl _) _), ((Below.refl _ _).alloc (Nat.le_refl _) _)⟩ | exact ⟨HS.out _ (Below.refl _ _), Below.refl _ _⟩) (first | (go_at_call 23; go_loud ((refine (HFD.out _ (by first | assumption | exact (Below.refl _ _).drew | exact ((Below.refl _ _).alloc (Nat.le_refl _) _).drew)).mono ?_; rintro e5 u5 ⟨rfl, hb50⟩; first | (have hb5 : Below wr.heap.size wr u5 := ((Below.refl _ _).drew).trans (hb50.mono (Nat.le_refl _))) | (have hb5 : Below wr.heap.size wr u5 := (((Below.refl _ _).alloc (Nat.le_refl _) (.cells #[.int .i64 0, .int .i64 0, .int .i64 0] 55)).drew).trans (hb50.mono (by simp)); have hw5 : RowT 55 u5 wr.heap.size #[.int .i64 0, .int .i64 0, .int .i64 0] := (hb50.block _ (by simp)).trans (Go.Deep.blk_alloc_new _ _); have hw6 := hw5.set 0 (.int .i64 (c.toNat : Nat)); have hw7 := hw6.set 1 (.int .i64 m); have hw8 := hw7.set 2 (.int .i64 (tt : Nat)); have y0 := hw5.cell 0; have y1 := hw5.frozen 0; have y2 := hw6.cell 1; have y3 := hw6.frozen 1; have y4 := hw7.cell 2; have y5 := hw7.frozen 2; have z1 := hw8.cell 1; have z2 := hw8.cell 2; have hb8 := ((hb5.setCell (p := ⟨wr.heap.size, 0, none⟩) (by exact Nat.le_refl _) (.int .i64 (c.toNat : Nat))).setCell (p := ⟨wr.heap.size, 1, none⟩) (by exact Nat.le_refl _) (.int .i64 m)).setCell (p := ⟨wr.heap.size, 2, none⟩) (by exact Nat.le_refl _) (.int .i64 (tt : Nat)))))))
              all_goals go_wp2_with fail
              all_goals go_roundg (tl - (k + 1))
              all_goals first
                | omega
                | exact ⟨k + 1, tt, p + m, by omega, rfl, rfl, (by first | rfl | rw [hpm]), by go_num, by omega, by omega, HNX, (by show Below _ _ _; first | exact HBX.out.trans (hb8.mono HBX.out.size) | exact HBX.out.trans ((hb5.alloc hb5.size _).mono HBX.out.size) | exact HBX.out.trans ((hb5.alloc hb5.size _).drew.mono HBX.out.size) | exact HBX.out.trans (hb8.drew.mono HBX.out.size))⟩
            · obtain rfl : k = tl := by omega
              have k1 : ¬ (k : Int) < (k : Int) := by omega
              rw [List.drop_of_length_le (by rw [← HTL.out]; exact Nat.le_refl _)] at hmem
              have hend := HEN.out a r _ hra hmem
              obtain ⟨q, hq⟩ : ∃ q, q = z - p := ⟨_, rfl⟩
              rw [← hq] at hend
              rw [hend] at m0 m1
              have m0' : wr.cell? ⟨gn, a * 3, none⟩ = some (.bool true) := m0
              have m1' : wr.cell? ⟨gn, a * 3 + 1, none⟩ = some (.int .i64 q) := m1
              have hwz : IntKind.i64.wrap (p + q) = z := by rw [IntWalk.i64_in _ (by omega)]; omega
              have m0d : wr.drew.cell? ⟨gn, a * 3, none⟩ = some (.bool true) := m0
              have m1d : wr.drew.cell? ⟨gn, a * 3 + 1, none⟩ = some (.int .i64 q) := m1
              have d2d : wr.drew.cell? ⟨g, o + j * 2 + 1, none⟩ = some (.int .i64 z) := d2
              have HBX : Hid (Below W5.heap.size W5 wr) := HB.out.trans (hBx.out.mono HB.out.size)
              clear hws hra hmem hM hBx m2 hend m0 m1 hq haM
              go_wp2_with fail
              go_quiet (fail)
              go_wp2_with fail
              go_roundg (n - (j + 1))
              case rel => exact ⟨j + 1, by omega, rfl, by go_num, (by show Below _ _ _; first | exact belowN HBX.out _ | exact HBX.out)⟩
              case measure => omega
        · obtain rfl : j = n := by omega
          have j1 : ¬ (j : Int) < (j : Int) := by omega
          have HBF : Hid (Below w.heap.size w wr) := HW5.out.trans (hB.out.mono HW5.out.size)
          go_wp2_with fail
          try rw [Exit.noGoto_ret]
          go_ret
          exact ⟨rfl, HBF.out⟩
theorem least_walk (w : World) (v : Value) (l : List Fs.En) (hL : Lst w v l) : Calls Try.prog 6 #[v] w fun e w' => e = .returned (.bool true) ∧ Below w.heap.size w w' := by
  cases hl : lightF l with
  | false => exact least_far w v l hL.ens hL.long hl
  | true =>
    by_cases hr : Fs.right l = 0
    · exact least_main w v l hL hl hr
    · exact least_bad w v l hL.ens hL.long hl hr
end Go.Proofs.Ytdjiknakbldggaa
