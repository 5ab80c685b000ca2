/-
  Lemmas on automata, the program's calls and the given ones, put together of 23 texts (part 6).
-/
import Derived.Test.YthhfmcikfdagiaaDoorQ5
import Derived.Test.YthhfmcikfdagiaaDoorQ2
import Derived.Test.YthhfmcikfdagiaaDoorQ4
import Derived.Lib.SliceRun
import Derived.Deep.RegionHeld3
import Derived.Deep.DeepCutAuto
import Derived.RegionTactic
import Derived.BigRegion
import Derived.Test.YthhfmcikfdagiaaDoorQ3
import Derived.Deep.QuietTactic
import Derived.BigQuiet
import Derived.Laws.StructEq
import Derived.Test.YthhfmcikfdagiaaDoorQ1
/-
  The program's classesOf: the walk.
-/
namespace Go.Proofs.YthhfmcikfdagiaaDoor
open Go.RowKit
theorem StrS.pst {w w' : World} {κ κ' : Nat → Nat} {u : Value} {S : List Au.Strch} (h : StrS (fun g => κ g = 0) w u S) (hs : Pst O0 κ w w' κ') : StrS (fun g => κ' g = 0) w' u S := by
  have h1 := h.wide (G := fun g => κ' g = 0 ∧ κ g = 0) fun g hg hk => ⟨(hs.col g hg hk).trans hk, hk⟩
  exact (h1.keep hs.size fun g hg hl => hs.block g hl hg.2).wide fun g _ hg => hg.1
/-- Classes that are still being split. -/
structure Cls2 (d : List Au.St) (w0 w : World) (κ : Nat → Nat) (n p : Nat) (C : Au.Cls) (O : Option Nat → Prop) : Prop where
  cls : ClsM n w p κ C
  inv : Au.HInv d O (fun _ => False) C
  base : Base w0 w κ
theorem ClsS.pop {n p : Nat} {w : World} {κ : Nat → Nat} {C : Au.Cls} {X : List Value} {bo ba gw m cw gq cq c ql : Nat} {q : List Nat} {vm : Value} (h : ClsS n w p κ C X bo ba vm (.slice (some ⟨gw, 0, none⟩) m cw) (.slice (some ⟨gq, 0, none⟩) (ql + 1) cq)) (hm : m = C.waits.length) (hq : C.wq = q ++ [c]) (hql : q.length = ql) (hc : c < m) :
    (w.cell? ⟨p, 4, none⟩ = some (.slice (some ⟨gq, 0, none⟩) (ql + 1) cq) ∧ w.frozen? ⟨p, 4, none⟩ = false) ∧
    ((w.setCell ⟨p, 4, none⟩ (.slice (some ⟨gq, 0, none⟩) ql cq)).frozen? ⟨gw, c, none⟩ = false ∧ (∃ u, (w.setCell ⟨p, 4, none⟩ (.slice (some ⟨gq, 0, none⟩) ql cq)).cell? ⟨gw, c, none⟩ = some u) ∧ (w.setCell ⟨p, 4, none⟩ (.slice (some ⟨gq, 0, none⟩) ql cq)).cell? ⟨p, 3, none⟩ = some (.slice (some ⟨gw, 0, none⟩) m cw)) ∧
    ClsM n ((w.setCell ⟨p, 4, none⟩ (.slice (some ⟨gq, 0, none⟩) ql cq)).setCell ⟨gw, c, none⟩ (.bool false)) p κ (C.pop q c) ∧ Pst E9 κ w ((w.setCell ⟨p, 4, none⟩ (.slice (some ⟨gq, 0, none⟩) ql cq)).setCell ⟨gw, c, none⟩ (.bool false)) κ := by
  have hr := h.wq
  rw [hq, List.length_append, show q.length + [c].length = ql + 1 by rw [hql]; rfl] at hr
  have hl := hr.less ql (Nat.le_succ _)
  have e : (natsV (q ++ [c])).take (ql * 1) = natsV q := by
    unfold natsV
    rw [← List.map_take, Nat.mul_one, List.take_left' hql]
  rw [e] at hl
  obtain ⟨h1, h2, p2⟩ := h.setQ (Step.refl κ 13 w) (l := q) (m := ql) hql.symm hl
  obtain ⟨⟨f3, u3, c3⟩, h3, p3⟩ := h2.setW hm c false hc
  exact ⟨h1, ⟨f3, ⟨u3, c3⟩, h2.cells.2.2.2.1⟩, ⟨_, _, _, _, _, _, h3⟩, p2.trans p3⟩

set_option maxRecDepth 100000 in
set_option maxHeartbeats 4000000 in
theorem classesOf_any (F : Nat → Prop) (w : World) (u vb : Value) (ga : Nat) (d : List Au.St) (n : Nat) (hd : d.length = n) (hf : Au.Fits d) (h0 : ¬ Au.Dead (Au.ofL d) (some 0)) (hu : StS F w u d) (hb : RowsS F w vb ((List.range n).map (Au.back d))) (hal : w.rowIs ga 4 n (fun j => .bool (Au.aliveB d j))) :
    Calls Tryd.prog 43 #[u, vb, .slice (some ⟨ga, 0, none⟩) n n] w fun e w' => ∃ p κ C O, e = .returned (.pointer (some ⟨p, 0, none⟩)) ∧ Cls2 d w w' κ n p C O ∧ C.wq = [] := by
  have hn2 : n ≤ 20000 := by have := hf.top; omega
  have hn0 : 0 < n := by have := hf.pos; omega
  obtain ⟨ad, cd, rfl, _, _, hdc⟩ := hu
  obtain ⟨gd, od, rfl, lgd, _, hdc⟩ := hdc (by omega)
  have HDC := Lib.hid hdc
  have HDN := Lib.hid hd
  have HF := Lib.hid hf
  have HAL := Lib.hid hal
  have HBEG := Lib.hid fun O => Au.begun_inv hf h0 O
  have hmk := run_make_row' (P := Tryd.prog) 22 3 (.int .i64 0) 8 Tryd.underlying22 Tryd.infoN rfl .i64 .i64 n (by omega) (by omega)
  obtain ⟨i1, hi1, hy0, hy1, hy2⟩ := info_parts Tryd.infoN
  have hln : ((List.range n).map (Au.back d)).length = n := by simp
  have hb2 := hb
  obtain ⟨ab, cb, hvb, hjunk⟩ := hb
  rw [hln] at hvb
  subst hvb
  have HB := Lib.hid hb2
  rw [hd]
  clear hdc hd hf hal h0 hjunk hb2 hln
  go_enter Tryd.func43, Tryd.ntmps43
  go_upto_region 1 with (fail)
  go_cut [7] (fun s7 wx => ∃ p bo ba κ, s7 = .pointer (some ⟨p, 0, none⟩) ∧ Hid (Cl1 d w wx κ n p bo ba 0 0 (.slice none 0 0) (.slice none 0 0)))
  case first =>
    go_region
    all_goals
      go_wp2_with fail
      go_meet
      first
        | exact ⟨_, w.heap.size, w.heap.size + 1, _, rfl, cl1_start d w n _ _ (.inl ⟨rfl, rfl⟩)⟩
        | exact ⟨_, w.heap.size + 1, w.heap.size, _, rfl, cl1_start d w n _ _ (.inr ⟨rfl, rfl⟩)⟩
  case rest =>
    obtain ⟨p, bo, ba, κ, rfl, H1⟩ := hcut
    clear hmk
    go_wp2_with fail
    go_loopg [8, 9, 26] n (fun gg s8 s9 s26 wx => ∃ (i : Nat) (κ : Nat → Nat), i ≤ n ∧ gg = n - i ∧ s26 = .int .i64 i ∧ Hid (Cl1 d w wx κ n p bo ba i i s8 s9))
    case atStart => exact ⟨0, _, Nat.zero_le _, rfl, rfl, H1⟩
    case round =>
      clear H1
      obtain ⟨i, κ, hi, rfl, rfl, hP⟩ := hrel
      obtain ⟨a8, c8, rfl, _, _, _⟩ := hP.out.fin.form
      obtain ⟨a9, c9, rfl, _, _, _⟩ := hP.out.oth.form
      have hl8 := Au.finTo_len d i
      have hl9 := Au.othTo_len d i
      by_cases hin : i < n
      · have j1 : (i : Int) < (n : Int) := by omega
        have hid : i < d.length := by rw [HDN.out]; exact hin
        obtain ⟨c1, va, c2, hA⟩ := HDC.out i hid
        have hbl := hP.out.base.below
        have e1 := (cell_same (a := ⟨gd, od + i * 2, none⟩) (hbl.block gd lgd)).trans c1
        have e2 := (cell_same (a := ⟨gd, od + i * 2 + 1, none⟩) (hbl.block gd lgd)).trans c2
        obtain ⟨aa, ca, rfl, hjunk⟩ := hA
        clear hjunk
        have hfi : Hid ((Au.ofL d).fin i = d[i].fin) := by
          show _ = _
          simp [Au.ofL, List.getElem?_eq_getElem hid]
        generalize d[i].fin = fin at *
        generalize d[i].arcs.length = m at *
        have HP1 := Lib.hid (hP.out.zero ((Below.refl _ _).alloc (Nat.le_refl _) (.cells #[.bool fin, .slice aa m ca] 42)))
        have hDb : Hid ((wr.alloc (.cells #[.bool fin, .slice aa m ca] 42)).heap[wr.heap.size]? = some (.cells #[.bool fin, .slice aa m ca] 42 (0, 0))) := Go.Deep.blk_alloc_new _ _
        have hkD : Hid (paint κ wr.heap.size 0 wr.heap.size = 0) := paint_new _ _ _ _ (Nat.le_refl _)
        clear hP hbl c1 c2
        go_upto_region 6 with (fail)
        generalize wr.alloc (.cells #[.bool fin, .slice aa m ca] 42) = w2 at *
        generalize wr.heap.size = D at *
        generalize paint κ D 0 = κ2 at *
        obtain ⟨⟨f1, c1⟩, hm1⟩ := HP1.out.mark hin
        obtain ⟨b0, _, _, _, _, _⟩ := HP1.out.cls.cells
        have d0 : w2.cell? ⟨D, 0, none⟩ = some (.bool fin) := by have h := hDb.out; simp [World.cell?, h]
        have hDbo : D ≠ bo := fun e => by
          have h1 := HP1.out.cls.ko
          rw [← e, hkD.out] at h1
          omega
        have d1 := (cell_same (a := ⟨D, 0, none⟩) (heap_other w2 bo i D (.int .i64 (-1)) hDbo)).trans d0
        have HM1 := Lib.hid hm1
        have e3 := (cell_same (a := ⟨ga, i, none⟩) (hm1.base.below.block ga HAL.out.lt)).trans (HAL.out.cell hin)
        clear HP1 hDb hkD hDbo hm1
        go_upto_region 7 with (fail)
        clear d0 c1 f1 b0
        generalize w2.setCell ⟨bo, i, none⟩ (.int .i64 (-1)) = w3 at *
        cases fin with
        | true =>
          go_wp2_with (at_builtin; refine wpList_pushC rfl _ _ 22 3 rfl i1 _ 1 8 Tryd.underlying22 hi1 hy0 hy1 hy2 rfl (by decide) κ2 2 _ (Au.finTo d i).length (natsV (Au.finTo d i)) rfl HM1.out.fin [.int .i64 (i : Int)] rfl (one_of rfl) rfl (by omega) (by omega) ?_; intro g6 cp6 w6 hr6 hs6; have HP6 := Lib.hid (HM1.out.addF hfi.out rfl hr6 hs6).1; clear hr6 hs6)
          go_roundg (n - (i + 1))
          case rel => exact ⟨i + 1, _, by omega, rfl, by go_num, HP6⟩
          case measure => omega
        | false =>
          cases hab : Au.aliveB d i with
          | true =>
            rw [hab] at e3
            go_wp2_with (at_builtin; refine wpList_pushC rfl _ _ 22 3 rfl i1 _ 1 8 Tryd.underlying22 hi1 hy0 hy1 hy2 rfl (by decide) κ2 4 _ (Au.othTo d i).length (natsV (Au.othTo d i)) rfl HM1.out.oth [.int .i64 (i : Int)] rfl (one_of rfl) rfl (by omega) (by omega) ?_; intro g6 cp6 w6 hr6 hs6; have HP6 := Lib.hid (HM1.out.addO hfi.out hab rfl hr6 hs6).1; clear hr6 hs6)
            go_roundg (n - (i + 1))
            case rel => exact ⟨i + 1, _, by omega, rfl, by go_num, HP6⟩
            case measure => omega
          | false =>
            rw [hab] at e3
            have HP6 := Lib.hid (HM1.out.skip hfi.out hab)
            clear HM1
            go_wp2_with fail
            go_roundg (n - (i + 1))
            case rel => exact ⟨i + 1, _, by omega, rfl, by go_num, HP6⟩
            case measure => omega
      · obtain rfl : i = n := by omega
        have HC0 : Hid (ClsM i wr p (fun k => if κ k = 2 then 9 else κ k) Au.Cls.none ∧ RowC (fun k => if κ k = 2 then 9 else κ k) 9 wr 3 1 (.slice a8 (Au.finals d).length c8) (Au.finals d).length (natsV (Au.finals d)) ∧ RowC (fun k => if κ k = 2 then 9 else κ k) 4 wr 3 1 (.slice a9 (Au.others d).length c9) (Au.others d).length (natsV (Au.others d)) ∧ Base w wr (fun k => if κ k = 2 then 9 else κ k)) := by
          have h := hP.out
          have hf1 := h.fin
          have ho1 := h.oth
          rw [← HDN.out, Au.finTo_all] at hf1
          rw [← HDN.out, Au.othTo_all] at ho1
          have hcl : ClsS i wr p κ Au.Cls.none [] bo ba (.slice none 0 0) (.slice none 0 0) (.slice none 0 0) :=
            ⟨h.cls.prow, h.cls.kp, h.cls.of.congr fun j hj => by simp [Au.Cls.none, hj], h.cls.ko, h.cls.pos, h.cls.ka, h.cls.mem, h.cls.lenX, h.cls.each, h.cls.waits, h.cls.wq⟩
          refine ⟨ClsM.recol ⟨_, _, _, _, _, _, hcl⟩ fun k _ ho _ => if_neg (by omega), ⟨hf1.own, fun b hb => ?_⟩, ⟨ho1.own, fun b hb => ?_⟩, h.base.below, fun k hk => ?_⟩
          · show (if _ then _ else _) = _
            rw [if_pos (hf1.col b hb)]
          · show (if _ then _ else _) = _
            rw [ho1.col b hb, if_neg (by decide)]
          · show (if _ then _ else _) = _
            rw [h.base.old k hk, if_neg (by decide)]
        have hfl : (Au.finTo d i).length = (Au.finals d).length := by rw [← HDN.out, Au.finTo_all]
        have hol : (Au.othTo d i).length = (Au.others d).length := by rw [← HDN.out, Au.othTo_all]
        generalize (fun k => if κ k = 2 then 9 else κ k) = κ1 at *
        have hfm : ∀ s ∈ Au.finals d, s < i := fun s hs => by
          unfold Au.finals at hs
          have := List.mem_range.1 (List.mem_filter.1 hs).1
          rw [HDN.out] at this
          exact this
        have hom : ∀ s ∈ Au.others d, s < i := fun s hs => by
          unfold Au.others at hs
          have := List.mem_range.1 (List.mem_filter.1 hs).1
          rw [HDN.out] at this
          exact this
        have HFD := Lib.hid (found_any i wr p κ1 Au.Cls.none (Au.finals d) (.slice a8 (Au.finals d).length c8) HC0.out.1 HC0.out.2.1 hfm (List.Nodup.sublist List.filter_sublist List.nodup_range) (by show (0 : Nat) ≤ _; omega) (by show (0 : Nat) ≤ _; omega) (by omega))
        have HW0 : Hid (∀ W κ, ClsM i W p κ (Au.Cls.none.found (Au.finals d)) → Calls Tryd.prog 59 #[.pointer (some ⟨p, 0, none⟩), .int .i64 0] W fun e w' => e = .returned (.tuple #[]) ∧ ClsP E9 i p κ W ((Au.Cls.none.found (Au.finals d)).wait 0) w') := fun W κ h =>
          wait_any i W p κ _ 0 h (by show 0 < 1; omega) (by show 1 ≤ _; omega) (by show 0 ≤ _; omega)
        have HFE : Hid (∀ W κ, ClsM i W p κ ((Au.Cls.none.found (Au.finals d)).wait 0) → RowC κ 9 W 3 1 (.slice a9 (Au.others d).length c9) (Au.others d).length (natsV (Au.others d)) → Calls Tryd.prog 60 #[.pointer (some ⟨p, 0, none⟩), .slice a9 (Au.others d).length c9] W fun e w' => e = .returned (.int .i64 1) ∧ ClsP E i p κ W (((Au.Cls.none.found (Au.finals d)).wait 0).found (Au.others d)) w') := fun W κ h h2 =>
          found_any i W p κ _ (Au.others d) _ h h2 hom (List.Nodup.sublist List.filter_sublist List.nodup_range) (by show (1 : Nat) ≤ _; omega) (by show (1 : Nat) ≤ _; omega) (by omega)
        have HW1 : Hid (∀ W κ, ClsM i W p κ (((Au.Cls.none.found (Au.finals d)).wait 0).found (Au.others d)) → Calls Tryd.prog 59 #[.pointer (some ⟨p, 0, none⟩), .int .i64 1] W fun e w' => e = .returned (.tuple #[]) ∧ ClsP E9 i p κ W (Au.begun d) w') := fun W κ h =>
          wait_any i W p κ _ 1 h (by show 1 < 2; omega) (by show 2 ≤ _; omega) (by show 1 ≤ _; omega)
        change Hid (Calls _ _ _ _ fun e w' => e = .returned (.int .i64 0) ∧ _) at HFD
        rw [hfl, hol]
        clear hP hfm hom hfl hol hl8 hl9
        go_wp2_with fail
        refine HFD.out.mono ?_
        rintro e w5 ⟨rfl, κ5, h5, p5⟩
        have H5 := Lib.hid (And.intro h5 (And.intro (p5.row HC0.out.2.2.1 rfl) (HC0.out.2.2.2.pst p5.zero)))
        clear h5 p5 HFD HC0
        go_wp2_with fail
        refine (HW0.out _ _ H5.out.1).mono ?_
        rintro e w6 ⟨rfl, κ6, h6, p6⟩
        have H6 : Hid (ClsM i w6 p (fun k => if κ6 k = 4 then 9 else κ6 k) ((Au.Cls.none.found (Au.finals d)).wait 0) ∧ RowC (fun k => if κ6 k = 4 then 9 else κ6 k) 9 w6 3 1 (.slice a9 (Au.others d).length c9) (Au.others d).length (natsV (Au.others d)) ∧ Base w w6 (fun k => if κ6 k = 4 then 9 else κ6 k)) := by
          have ho := p6.row H5.out.2.1 (.inl rfl)
          have hb := H5.out.2.2.pst p6.zero9
          refine ⟨h6.recol fun k _ ho _ => if_neg (by omega), ⟨ho.own, fun b hb => ?_⟩, hb.below, fun k hk => ?_⟩
          · show (if _ then _ else _) = _
            rw [if_pos (ho.col b hb)]
          · show (if _ then _ else _) = _
            rw [hb.old k hk, if_neg (by decide)]
        clear h6 p6 HW0 H5
        generalize (fun k => if κ6 k = 4 then 9 else κ6 k) = κ7 at *
        go_wp2_with fail
        refine (HFE.out _ _ H6.out.1 H6.out.2.1).mono ?_
        rintro e w7 ⟨rfl, κ8, h7, p7⟩
        have H7 := Lib.hid (And.intro h7 (H6.out.2.2.pst p7.zero))
        clear h7 p7 HFE H6
        go_wp2_with fail
        refine (HW1.out _ _ H7.out.1).mono ?_
        rintro e w8 ⟨rfl, κ9, h8, p8⟩
        have H8 : Hid (Cls2 d w w8 κ9 i p (Au.begun d) (fun _ => False)) := ⟨h8, HBEG.out _, H7.out.2.pst p8.zero9⟩
        clear h8 p8 HW1 H7 HBEG
        go_wp2_with fail
        go_loopg [] ((Au.begun d).wq.length + (i + 1 - (Au.begun d).mem.length)) (fun gg wx => ∃ κ C O, gg = C.wq.length + (i + 1 - C.mem.length) ∧ Hid (Cls2 d w wx κ i p C O))
        case atStart => exact ⟨_, _, _, rfl, H8⟩
        case round =>
          clear H8
          obtain ⟨κ, C, O, rfl, hP⟩ := hrel
          obtain ⟨X, bo, ba, vm, vw, vq, hS⟩ := hP.out.cls
          have hfew : C.mem.length ≤ i + 1 := by
            have := Au.few_classes hP.out.inv.ok hP.out.inv.ne
            rw [HDN.out] at this
            exact this
          obtain ⟨b0, b1, b2, b3, b4, b5⟩ := hS.cells
          rcases List.eq_nil_or_concat C.wq with hq | ⟨q, c, hq⟩
          · have hform := hS.wq.form
            rw [hq] at hform
            obtain ⟨aq, cq, rfl, _, _, _⟩ := hform
            clear hS b5
            go_wp2_with fail
            go_ret
            exact ⟨p, κ, C, O, rfl, hP.out, hq⟩
          · rw [List.concat_eq_append] at hq
            have hcq : c ∈ C.wq := by rw [hq]; simp
            have hcm := hP.out.inv.wait.lt hcq
            have hwl := hP.out.inv.wait.len
            have hwql : C.wq.length = q.length + 1 := by rw [hq]; simp
            obtain ⟨aw, cw, rfl, _, _, hw4⟩ := hS.waits.form
            obtain ⟨gw, rfl, _⟩ := hw4 (by omega)
            have hform := hS.wq.form
            rw [hwql] at hform
            obtain ⟨aq, cq, rfl, hqc, _, hq4⟩ := hform
            obtain ⟨gq, rfl, _, _, _, hqx⟩ := hq4 (by omega)
            obtain ⟨ql, hql⟩ : ∃ ql, q.length = ql := ⟨_, rfl⟩
            obtain ⟨m, hm⟩ : ∃ m, m = C.waits.length := ⟨_, rfl⟩
            have r1 := hqx ql (.int .i64 (c : Int)) (by rw [hq, ← hql]; simp [natsV])
            rw [hql] at hS b4 hqc
            rw [← hm] at hS b3
            have hcm2 : c < m := by omega
            obtain ⟨⟨p1, p2⟩, ⟨p3, ⟨u4, p4⟩, p5⟩, hM, hPst⟩ := hS.pop hm hq hql hcm2
            have hH2 : Hid (ClsM i ((wr.setCell ⟨p, 4, none⟩ (.slice (some ⟨gq, 0, none⟩) ql cq)).setCell ⟨gw, c, none⟩ (.bool false)) p κ (C.pop q c) ∧ Base w ((wr.setCell ⟨p, 4, none⟩ (.slice (some ⟨gq, 0, none⟩) ql cq)).setCell ⟨gw, c, none⟩ (.bool false)) κ) := ⟨hM, hP.out.base.pst hPst.zero9⟩
            have j1 : (c : Int) < (m : Int) := by omega
            have j2 : ∀ _ : True, wrap64 (ql : Int) = (ql : Int) := fun _ => by unfold wrap64; omega
            have j3 : (ql : Int) < (ql : Int) + 1 := by omega
            have j4 : (ql : Int) < ((ql + 1 : Nat) : Int) := by omega
            have j5 : (ql : Int) ≤ (cq : Int) := by omega
            have j6 : (0 : Int) < (ql : Int) + 1 := by omega
            have j7 : (0 : Int) < ((ql + 1 : Nat) : Int) := by omega
            have HINV := Lib.hid hP.out.inv
            have HWQ : Hid (C.wq.length = ql + 1) := by
              show _ = _
              omega
            have HQ := Lib.hid hq
            have hrow : ∀ x ∈ C.row c, x < i := fun x hx => by
              have := (hP.out.inv.ok.mem_row hx).1
              rw [HDN.out] at this
              exact this
            have hnd := hP.out.inv.ok.nodup c
            clear hS b0 b1 b2 b5 hw4 hq4 hqx hM hPst hP hwl hwql hcq p1 hm hcm2 hq hql
            go_upto_region 19 with (fail)
            generalize (wr.setCell ⟨p, 4, none⟩ (.slice (some ⟨gq, 0, none⟩) ql cq)).setCell ⟨gw, c, none⟩ (.bool false) = w3 at *
            have HWH := Lib.hid (whence_any d w3 p κ (C.pop q c) c F (.slice ab i cb) i HDN.out HF.out hH2.out.1 hcm hrow hnd (HB.out.below hH2.out.2.below) (by show C.mem.length ≤ _; omega))
            clear p2 p3 p4 p5 b3 b4 r1 hrow hnd
            go_wp2_with fail
            refine HWH.out.mono ?_
            rintro e w4 ⟨uu, S, rfl, hcut, hstr, hb4⟩
            have HCUT : Hid (Au.Cut ((C.row c).flatMap (Au.back d)) 0 S) := hcut
            have hstr2 := hstr.wide (G := fun g => paint κ w3.heap.size 0 g = 0) fun g _ hg => paint_new _ _ _ _ hg
            obtain ⟨sa, cs, rfl, _, _, hjunk⟩ := hstr
            clear hjunk
            have hfewS := hcut.few (Nat.zero_le _)
            obtain ⟨sl, hsl⟩ : ∃ sl, S.length = sl := ⟨_, rfl⟩
            rw [hsl] at hstr2
            have HSL := Lib.hid hsl
            have HI : Hid (ClsM i w4 p (paint κ w3.heap.size 0) (C.pop q c) ∧ Au.HW d C c S 0 (C.pop q c) ∧ Base w w4 (paint κ w3.heap.size 0) ∧ StrS (fun g => paint κ w3.heap.size 0 g = 0) w4 (.slice sa sl cs) S) :=
              ⟨hH2.out.1.step (Step.of_below hb4) rfl, Au.HW.start HINV.out HQ.out hcut, hH2.out.2.pst (Pst.of_below hb4), hstr2⟩
            rw [hsl]
            rw [hsl] at hfewS
            clear hcut hstr2 hb4 HWH hH2 hsl
            go_wp2_with fail
            go_loopg [101] sl (fun gg s101 wx => ∃ (k : Nat) (κ : Nat → Nat) (C' : Au.Cls), k ≤ sl ∧ gg = sl - k ∧ s101 = .int .i64 k ∧ Hid (ClsM i wx p κ C' ∧ Au.HW d C c S k C' ∧ Base w wx κ ∧ StrS (fun g => κ g = 0) wx (.slice sa sl cs) S))
            case atStart => exact ⟨0, _, _, Nat.zero_le _, rfl, rfl, HI⟩
            case round =>
              clear HI
              obtain ⟨k, κ, C', hk, rfl, rfl, hI⟩ := hrel
              by_cases hks : k < sl
              · have j1 : (k : Int) < (sl : Int) := by omega
                have hkS : k < S.length := by rw [HSL.out]; exact hks
                obtain ⟨sa', cs', he, _, _, hcl⟩ := hI.out.2.2.2
                simp only [Value.slice.injEq] at he
                obtain ⟨rfl, hz, rfl⟩ := he
                clear hz
                obtain ⟨g, o, rfl, lg, hgz, hcl⟩ := hcl (by omega)
                obtain ⟨q1, q2, vt, q3, hN⟩ := hcl k hkS
                obtain ⟨l1, l2, l3, l4, _⟩ := Au.HW.list HINV.out HCUT.out hI.out.2.1.inv hkS
                have hnx := Lib.hid (Au.HW.next HINV.out HCUT.out hI.out.2.1 hkS)
                obtain ⟨lst, hlst⟩ : ∃ lst, Au.toL S[k] = lst := ⟨_, rfl⟩
                rw [hlst] at l1 l2 l3 l4 hnx
                rw [← l1] at hN
                have hl3 : ∀ s ∈ lst, s < i ∧ 0 ≤ C'.of s := fun s hs => by
                  have := l3 s hs
                  rw [HDN.out] at this
                  exact this
                generalize S[k].lo = slo at *
                generalize S[k].hi = shi at *
                have hN2 := (hN.wide (G := fun g => paint κ wr.heap.size 0 g = 0) fun g hg hz => (paint_old _ _ _ _ hg).trans hz)
                obtain ⟨at', ct, rfl, hjunk⟩ := hN
                clear hjunk
                have hbA : ∀ ob, Below wr.heap.size wr (wr.alloc ob) := fun ob => (Below.refl _ _).alloc (Nat.le_refl _) _
                obtain ⟨tl, htl⟩ : ∃ tl, (lst.map fun (i : Nat) => (i : Int)).length = tl := ⟨_, rfl⟩
                rw [htl] at hN2 q3
                have hI5 : Hid (ClsM i (wr.alloc (.cells #[.int .i64 (slo : Int), .int .i64 (shi : Int), .slice at' tl ct] 82)) p (paint κ wr.heap.size 0) C' ∧ Base w (wr.alloc (.cells #[.int .i64 (slo : Int), .int .i64 (shi : Int), .slice at' tl ct] 82)) (paint κ wr.heap.size 0) ∧ StrS (fun g => paint κ wr.heap.size 0 g = 0) (wr.alloc (.cells #[.int .i64 (slo : Int), .int .i64 (shi : Int), .slice at' tl ct] 82)) (.slice (some ⟨g, o, none⟩) sl cs) S) :=
                  ⟨hI.out.1.step (Step.of_below (hbA _)) rfl, hI.out.2.2.1.pst (Pst.of_below (hbA _)), hI.out.2.2.2.pst (Pst.of_below (hbA _))⟩
                have HSB := Lib.hid (splitBy_any d _ _ (wr.alloc (.cells #[.int .i64 (slo : Int), .int .i64 (shi : Int), .slice at' tl ct] 82)) p (paint κ wr.heap.size 0) C' lst (.slice at' tl ct) i HDN.out hI5.out.1 hI.out.2.1.inv (hN2.below (hbA _)) l2 hl3 l4 hn2)
                clear hcl l1 l2 l3 l4 hl3 hN2 hbA hI htl hlst
                go_wp2_with fail
                refine HSB.out.mono ?_
                rintro e w6 ⟨rfl, κ6, h6, p6, _⟩
                have hI6 : Hid (ClsM i w6 p κ6 (Au.splitBy C' lst) ∧ Au.HW d C c S (k + 1) (Au.splitBy C' lst) ∧ Base w w6 κ6 ∧ StrS (fun g => κ6 g = 0) w6 (.slice (some ⟨g, o, none⟩) sl cs) S) := ⟨h6, hnx.out, hI5.out.2.1.pst p6, hI5.out.2.2.pst p6⟩
                clear h6 p6 hI5 hnx HSB
                go_wp2_with fail
                go_roundg (sl - (k + 1))
                case rel => exact ⟨k + 1, _, _, by omega, rfl, by go_num, hI6⟩
                case measure => omega
              · obtain rfl : k = sl := by omega
                have hI6 : Hid (Cls2 d w wr κ i p C' (fun x => C.cls x = (c : Int))) := ⟨hI.out.1, hI.out.2.1.done (by rw [HSL.out]; exact Nat.le_refl _), hI.out.2.2.1⟩
                have hme := hI.out.2.1.meas
                have hfew2 : C'.mem.length ≤ i + 1 := by
                  have := Au.few_classes hI6.out.inv.ok hI6.out.inv.ne
                  rw [HDN.out] at this
                  exact this
                clear hI
                go_wp2_with fail
                go_roundg (C'.wq.length + (i + 1 - C'.mem.length))
                case rel => exact ⟨κ, C', _, rfl, hI6⟩
                case measure => omega
end Go.Proofs.YthhfmcikfdagiaaDoor

/-
  The program's told, plainly and in memory: classes met, in their order.
-/
namespace Go.Proofs.YthhfmcikfdagiaaDoor
open Go.RowKit Go.Maps
namespace Au
/-- To which classes arcs lead. -/
def trs (C : Cls) (l : List Arc) : List (Trail Nat) := l.filterMap fun a => if C.of a.to.toNat = -1 then none else some ⟨a.lo.toNat, a.hi.toNat, (C.of a.to.toNat).toNat⟩
theorem trs_cons (C : Cls) (a : Arc) (r : List Arc) : trs C (a :: r) = if C.of a.to.toNat = -1 then trs C r else ⟨a.lo.toNat, a.hi.toNat, (C.of a.to.toNat).toNat⟩ :: trs C r := by
  unfold trs
  by_cases h : C.of a.to.toNat = -1
  · rw [if_pos h, List.filterMap_cons_none (by simp [h])]
  · rw [if_neg h, List.filterMap_cons_some (by simp [h]; rfl)]
theorem trs_snoc (C : Cls) (l : List Arc) (a : Arc) : trs C (l ++ [a]) = if C.of a.to.toNat = -1 then trs C l else trs C l ++ [⟨a.lo.toNat, a.hi.toNat, (C.of a.to.toNat).toNat⟩] := by
  unfold trs
  rw [List.filterMap_append]
  by_cases h : C.of a.to.toNat = -1
  · rw [if_pos h]; simp [h]
  · rw [if_neg h]; simp [h]
theorem trs_len (C : Cls) (l : List Arc) : (trs C l).length ≤ l.length := List.length_filterMap_le ..
def leadTo (C : Cls) (t : Int) : Option Nat := if C.of t.toNat = -1 then none else some (C.of t.toNat).toNat
theorem trs_leads (W : Walk Nat) (C : Cls) (s : Nat) {n : Nat} : ∀ (l : List Arc) (c : Nat), Row n 256 l → (∀ a ∈ l.head?, (c : Int) ≤ a.lo) → (∀ z : Nat, c ≤ z → z < 256 → W.go s z = (look l (z : Int)).bind (leadTo C)) → Leads W s c (trs C l) := by
  intro l
  induction l with
  | nil =>
    intro c _ _ hg x h1 h2
    rw [hg x h1 h2]
    rfl
  | cons a r ih =>
    intro c hrow hc hg
    obtain ⟨hr, hb, hl⟩ := hrow.tail
    have hca := hc a (by simp)
    rw [trs_cons]
    have hup : ∀ z : Int, z ≤ a.hi → look r z = none := fun z hz => look_low hr z fun x hx => by have := hl x hx; omega
    by_cases h : C.of a.to.toNat = -1
    · rw [if_pos h]
      refine ih c hr (fun x hx => ?_) fun z h1 h2 => ?_
      · have : x ∈ r := List.mem_of_mem_head? hx
        have := hl x this
        omega
      · rw [hg z h1 h2]
        by_cases hz : a.lo ≤ (z : Int) ∧ (z : Int) ≤ a.hi
        · rw [look_hit a r z hz, hup z hz.2]
          show leadTo C a.to = none
          unfold leadTo
          rw [if_pos h]
        · by_cases h3 : a.hi < (z : Int)
          · rw [look_skip a r z h3]
          · rw [look_ahead hrow z (by omega), hup z (by omega)]
    · rw [if_neg h]
      refine ⟨by show c ≤ a.lo.toNat; omega, by show a.lo.toNat ≤ a.hi.toNat; omega, by show a.hi.toNat < 256; omega, fun x h1 h2 => ?_, fun x h1 h2 => ?_, ?_⟩
      · change x < a.lo.toNat at h2
        rw [hg x h1 (by omega), look_ahead hrow x (by omega)]
        rfl
      · change a.lo.toNat ≤ x at h1
        change x ≤ a.hi.toNat at h2
        rw [hg x (by omega) (by omega), look_hit a r x (by omega)]
        show leadTo C a.to = _
        unfold leadTo
        rw [if_neg h]
      · show Leads W s (a.hi.toNat + 1) (trs C r)
        refine ih _ hr (fun x hx => ?_) fun z h1 h2 => ?_
        · have : x ∈ r := List.mem_of_mem_head? hx
          have := hl x this
          omega
        · rw [hg z (by omega) h2, look_skip a r z (by omega)]
theorem quo_go (d : List St) (C : Cls) (hr : ∀ i (h : i < d.length), Row d.length 256 d[i].arcs) (c z : Nat) : (quo d C).go c z = (look (arcsOf d ((C.row c).getD 0 0)) (z : Int)).bind (leadTo C) := by
  cases hl : look (arcsOf d ((C.row c).getD 0 0)) (z : Int) with
  | none =>
    have : (ofL d).step ((C.row c).getD 0 0) z = none := by
      cases hs : (ofL d).step ((C.row c).getD 0 0) z with
      | none => rfl
      | some t => rw [(look_step d _ z t hr).2 hs] at hl; cases hl
    simp only [quo, this, Option.bind]
  | some t =>
    obtain ⟨k, hk, e⟩ := look_mem hl
    have hb := (arcsOf_row hr ((C.row c).getD 0 0)).1 k hk
    rw [e] at hb
    have : (ofL d).step ((C.row c).getD 0 0) z = some t.toNat := (look_step d _ z t.toNat hr).1 (by rw [hl, Int.toNat_of_nonneg hb.2.2.2.1])
    simp only [quo, this, Option.bind, leadTo]
theorem quo_leads (d : List St) (C : Cls) (hr : ∀ i (h : i < d.length), Row d.length 256 d[i].arcs) (c : Nat) : Leads (quo d C) c 0 (trs C (arcsOf d ((C.row c).getD 0 0))) :=
  trs_leads _ C c _ 0 (arcsOf_row hr _) (fun a ha => by
    have h1 : a ∈ arcsOf d ((C.row c).getD 0 0) := List.mem_of_mem_head? ha
    obtain ⟨k, hk, rfl⟩ := List.getElem_of_mem h1
    have := (arcsOf_row hr _).1 k hk
    omega) fun z _ _ => quo_go d C hr c z
/-- What has been met and told with the first arcs. -/
def lp (W : Walk Nat) (C : Cls) (m : List Nat) (l : List Arc) : List Nat × List Arc := (trs C l).foldl W.lead (m, [])
theorem lp_leads (W : Walk Nat) (C : Cls) (m : List Nat) (l : List Arc) : lp W C m l = W.leads m (trs C l) (trs C l).length := by
  unfold lp Walk.leads
  rw [List.take_of_length_le (Nat.le_refl _)]
theorem lp_snoc (W : Walk Nat) (C : Cls) (m : List Nat) (l : List Arc) (a : Arc) : lp W C m (l ++ [a]) = if C.of a.to.toNat = -1 then lp W C m l else W.lead (lp W C m l) ⟨a.lo.toNat, a.hi.toNat, (C.of a.to.toNat).toNat⟩ := by
  unfold lp
  rw [trs_snoc]
  split
  · rfl
  · rw [List.foldl_append]
    rfl
def idxN (E : List Nat) (b : Nat) : Nat := find (fun a b => decide (a = b)) E b
theorem idxN_le (E : List Nat) (b : Nat) : idxN E b ≤ E.length := find_le _ _ _
end Au
def plN (E : List Nat) (b : Nat) : Option Value := if Au.idxN E b = E.length then none else some (.int .i64 (Au.idxN E b : Int))
theorem plN_snoc {E : List Nat} {b : Nat} (h : Au.idxN E b = E.length) (c : Nat) : plN (E ++ [b]) c = if c = b then some (.int .i64 (E.length : Int)) else plN E c := by
  by_cases e : c = b
  · rw [if_pos e]
    subst e
    unfold plN
    have h2 : Au.idxN (E ++ [c]) c = E.length := Au.find_snoc (fun a b : Nat => decide (a = b)) (fun s => decide_eq_true rfl) E c h
    rw [h2, if_neg (by rw [List.length_append]; simp)]
  · rw [if_neg e]
    unfold plN
    by_cases h1 : Au.idxN E c < E.length
    · have h2 : Au.idxN (E ++ [b]) c = Au.idxN E c := Au.find_append (fun a b : Nat => decide (a = b)) E [b] c h1
      rw [h2, if_neg (by rw [List.length_append]; simp; omega), if_neg (by omega)]
    · have h3 := Au.idxN_le E c
      have h4 : Au.idxN (E ++ [b]) c = (E ++ [b]).length := by
        have h5 := Au.idxN_le (E ++ [b]) c
        rcases Nat.lt_or_ge (Au.idxN (E ++ [b]) c) (E ++ [b]).length with q | q
        · exfalso
          have h6 := Au.find_hit (fun a b : Nat => decide (a = b)) (E ++ [b]) c q
          have h6 := of_decide_eq_true h6
          by_cases q2 : Au.idxN (E ++ [b]) c < E.length
          · have e2 : (E ++ [b])[Au.idxN (E ++ [b]) c] = E[Au.idxN (E ++ [b]) c] := List.getElem_append_left q2
            obtain ⟨_, h7⟩ := Au.find_miss (fun a b : Nat => decide (a = b)) E c (Au.idxN (E ++ [b]) c) (by show _ < Au.idxN E c; omega)
            have h7 := of_decide_eq_false h7
            exact h7 (e2 ▸ h6)
          · have e3 : Au.idxN (E ++ [b]) c = E.length := by simp at q; omega
            have e2 : (E ++ [b])[Au.idxN (E ++ [b]) c] = b := by simp [e3]
            exact e (by rw [← h6]; exact e2)
        · omega
      rw [h4, if_pos rfl, if_pos (by omega)]
def MapN (w : World) (mb : Nat) (E : List Nat) : Prop := ∃ F, MapG 3 w mb E.length F ∧ ∀ s, F (keyN s) = plN E s
theorem mapN_new {w : World} {mb : Nat} {E : List Nat} {F : Lit → Option Value} {b : Nat} (h : MapG 3 w mb (E.length + 1) (updG F (keyN b) (some (.int .i64 (E.length : Int))))) (hF : ∀ s, F (keyN s) = plN E s) (hb : Au.idxN E b = E.length) : MapN w mb (E ++ [b]) := by
  refine ⟨_, by rw [List.length_append]; exact h, fun s => ?_⟩
  rw [plN_snoc hb]
  by_cases e : s = b
  · rw [if_pos e, e, updG_same]
  · rw [if_neg e, updG_other _ _ _ _ fun h => e (keyN_inj h)]
    exact hF s
/-- The classes met, and their places. -/
structure TN (w : World) (mb : Nat) (κ : Nat → Nat) (vt : Value) (E : List Nat) : Prop where
  texts : RowC κ 2 w 3 1 vt E.length (natsV E)
  map : MapN w mb E
  col : κ mb = 3
theorem TN.lt {w : World} {mb : Nat} {κ : Nat → Nat} {vt : Value} {E : List Nat} (h : TN w mb κ vt E) : mb < w.heap.size := by
  obtain ⟨F, hm, _⟩ := h.map
  exact hm.lt
theorem TN.step {w w' : World} {mb c : Nat} {κ κ' : Nat → Nat} {vt : Value} {E : List Nat} (h : TN w mb κ vt E) (hs : Step κ c w w' κ') (h2 : 2 ≠ c) (h3 : 3 ≠ c) : TN w' mb κ' vt E := by
  obtain ⟨F, hm, hF⟩ := h.map
  have hl := hm.lt
  exact ⟨h.texts.step hs h2, ⟨F, hm.keep (hs.block mb hl (by rw [h.col]; exact h3)), hF⟩, by rw [hs.col mb hl]; exact h.col⟩
theorem Base.step {w0 w w' : World} {κ κ' : Nat → Nat} {c : Nat} (h : Base w0 w κ) (hs : Step κ c w w' κ') (hc : c ≠ 0) : Base w0 w' κ' := h.pst (Pst.of_step hs (by unfold O0; exact hc))
/-- Lists in blocks of their own. -/
def ApartL (L : List (Bool × Value)) : Prop := ∀ j k (hj : j < L.length) (hk : k < L.length), j ≠ k → ∀ g, L[j].2.ownBlock = some g → L[k].2.ownBlock ≠ some g
/-- Between two classes. -/
structure No (w0 w : World) (mb : Nat) (κ : Nat → Nat) (vt vo : Value) (E : List Nat) (L : List (Bool × Value)) (out : List Au.St) : Prop where
  bs : Base w0 w κ
  tm : TN w mb κ vt E
  ot : OT w κ vo L out
  ap : ApartL L
/-- Within one. -/
structure Ni (w0 w : World) (mb sb : Nat) (κ : Nat → Nat) (vt vo va : Value) (E : List Nat) (L : List (Bool × Value)) (out : List Au.St) (fin : Bool) (arcs : List Au.Arc) : Prop where
  bs : Base w0 w κ
  tm : TN w mb κ vt E
  ot : OT w κ vo L out
  ap : ApartL L
  cs : CS w sb κ va fin arcs
section
variable {w0 w w' : World} {mb sb : Nat} {κ κ' : Nat → Nat} {vt vo va : Value} {E : List Nat} {L : List (Bool × Value)} {out : List Au.St} {fin : Bool} {arcs : List Au.Arc}
theorem No.step {c : Nat} (h : No w0 w mb κ vt vo E L out) (hs : Step κ c w w' κ') (hc : 6 ≤ c) : No w0 w' mb κ' vt vo E L out :=
  ⟨h.bs.step hs (by omega), h.tm.step hs (by omega) (by omega), h.ot.step hs (by omega) (by omega), h.ap⟩
theorem No.open (h : No w0 w mb κ vt vo E L out) (fin : Bool) :
    Ni w0 (w.alloc (.cells #[.bool fin, .slice none 0 0] 42)) mb w.heap.size (paint κ w.heap.size 7) vt vo (.slice none 0 0) E L out fin [] := by
  have hs : Step κ 7 w (w.alloc (.cells #[.bool fin, .slice none 0 0] 42)) (paint κ w.heap.size 7) := Step.of_alloc w _
  obtain ⟨h1, h2, h3, h4⟩ := h.step hs (by decide)
  exact ⟨h1, h2, h3, h4, ⟨Go.Deep.blk_alloc_new _ _, paint_new _ _ _ _ (Nat.le_refl _), RowC.nil _ _ _ _ _⟩⟩
theorem Ni.step {c : Nat} (h : Ni w0 w mb sb κ vt vo va E L out fin arcs) (hs : Step κ c w w' κ') (hc : 9 ≤ c) : Ni w0 w' mb sb κ' vt vo va E L out fin arcs :=
  ⟨h.bs.step hs (by omega), h.tm.step hs (by omega) (by omega), h.ot.step hs (by omega) (by omega), h.ap, h.cs.step hs (by omega) (by omega)⟩
theorem Ni.drew (h : Ni w0 w mb sb κ vt vo va E L out fin arcs) : Ni w0 w.drew mb sb κ vt vo va E L out fin arcs := by
  obtain ⟨F, hm, hF⟩ := h.tm.map
  exact ⟨⟨h.bs.below.drew, h.bs.old⟩, ⟨h.tm.texts.drew, ⟨F, hm.keep rfl, hF⟩, h.tm.col⟩, ⟨h.ot.outs.drew, h.ot.len, fun j a b => ⟨(h.ot.each j a b).1, (h.ot.each j a b).2.drew⟩⟩, h.ap, ⟨h.cs.row, h.cs.col, h.cs.arcs.drew⟩⟩
theorem No.drew (h : No w0 w mb κ vt vo E L out) : No w0 w.drew mb κ vt vo E L out := by
  obtain ⟨F, hm, hF⟩ := h.tm.map
  exact ⟨⟨h.bs.below.drew, h.bs.old⟩, ⟨h.tm.texts.drew, ⟨F, hm.keep rfl, hF⟩, h.tm.col⟩, ⟨h.ot.outs.drew, h.ot.len, fun j a b => ⟨(h.ot.each j a b).1, (h.ot.each j a b).2.drew⟩⟩, h.ap⟩
theorem Ni.place (h : Ni w0 w mb sb κ vt vo va E L out fin arcs) (hg : w.grownBy w' (some mb)) :
    Step κ 3 w w' (paint κ w.heap.size 3) ∧ RowC (paint κ w.heap.size 3) 2 w' 3 1 vt E.length (natsV E) :=
  have hs : Step κ 3 w w' (paint κ w.heap.size 3) := Step.of_grown hg h.tm.col
  ⟨hs, h.tm.texts.step hs (by decide)⟩
theorem Ni.push {b : Nat} {w2 : World} {vt' : Value} (h : Ni w0 w mb sb κ vt vo va E L out fin arcs) (hm : MapN w' mb (E ++ [b])) (hs : Step κ 3 w w' κ')
    (hr : RowC (paint κ' w'.heap.size 2) 2 w2 3 1 vt' (E.length + 1) (natsV E ++ [.int .i64 (b : Int)])) (hs2 : Step κ' 2 w' w2 (paint κ' w'.heap.size 2)) : Ni w0 w2 mb sb (paint κ' w'.heap.size 2) vt' vo va (E ++ [b]) L out fin arcs := by
  obtain ⟨F, hmm, hF⟩ := hm
  have hl := h.tm.lt
  have hc : κ' mb = 3 := by rw [hs.col mb hl]; exact h.tm.col
  have hl' : mb < w'.heap.size := Nat.lt_of_lt_of_le hl hs.size
  refine ⟨(h.bs.step hs (by decide)).step hs2 (by decide), ⟨?_, ⟨F, hmm.keep (hs2.block mb hl' (by rw [hc]; decide)), hF⟩, by rw [hs2.col mb hl']; exact hc⟩, (h.ot.step hs (by decide) (by decide)).step hs2 (by decide) (by decide), h.ap, (h.cs.step hs (by decide) (by decide)).step hs2 (by decide) (by decide)⟩
  rw [← natsV_snoc, List.length_append]
  exact hr
theorem Ni.grow {va' : Value} {arcs' : List Au.Arc} (h : Ni w0 w mb sb κ vt vo va E L out fin arcs) (h2 : Ap.Two w w' va va') (ha : OwnA w' 0 va' arcs') :
    (w'.cell? ⟨sb, 1, none⟩ = some va ∧ w'.frozen? ⟨sb, 1, none⟩ = false) ∧ Ni w0 (w'.setCell ⟨sb, 1, none⟩ va') mb sb (paint κ w.heap.size 6) vt vo va' E L out fin arcs' := by
  have hs : Step κ 6 w w' (paint κ w.heap.size 6) := Step.of_two h2 fun b hb => h.cs.arcs.col b hb
  have hsb := h.cs.lt
  have hrow : w'.heap[sb]? = some (.cells #[.bool fin, va] 42 (0, 0)) := (hs.block sb hsb (by rw [h.cs.col]; decide)).trans h.cs.row
  have hcol : paint κ w.heap.size 6 sb = 7 := by rw [paint_old _ _ _ _ hsb]; exact h.cs.col
  have hs2 : Step (paint κ w.heap.size 6) 7 w' (w'.setCell ⟨sb, 1, none⟩ va') (paint κ w.heap.size 6) := Step.of_set w' sb 1 va' hcol
  have har : RowC (paint κ w.heap.size 6) 6 w' 63 3 va' arcs'.length (arcsV arcs') := ⟨ha, Two.col h2 fun b hb => h.cs.arcs.lt b hb⟩
  refine ⟨⟨by simp [World.cell?, hrow], by simp [World.frozen?, hrow]⟩, (h.bs.step hs (by decide)).step hs2 (by decide), (h.tm.step hs (by decide) (by decide)).step hs2 (by decide) (by decide), (h.ot.step hs (by decide) (by decide)).step hs2 (by decide) (by decide), h.ap, ⟨?_, hcol, har.step hs2 (by decide)⟩⟩
  rw [setCell_eq_setRow w' sb 1 _ _ _ _ hrow]
  exact setRow_heap w' sb _ _ _ _ hrow
theorem Ni.close {vo' : Value} (h : Ni w0 w mb sb κ vt vo va E L out fin arcs) (hr : RowC (paint κ w.heap.size 4) 4 w' 42 2 vo' (L.length + 1) (stsV L ++ [.bool fin, va])) (hs : Step κ 4 w w' (paint κ w.heap.size 4)) :
    No w0 w' mb (fun k => if paint κ w.heap.size 4 k = 6 then 5 else paint κ w.heap.size 4 k) vt vo' E (L ++ [(fin, va)]) (out ++ [⟨fin, arcs⟩]) := by
  have recol : ∀ {c : Nat} {e : TypeId} {z : Nat} {v : Value} {n : Nat} {xs : List Value}, RowC (paint κ w.heap.size 4) c w' e z v n xs → c ≠ 6 → RowC (fun k => if paint κ w.heap.size 4 k = 6 then 5 else paint κ w.heap.size 4 k) c w' e z v n xs := fun {c e z v n xs} hr hc =>
    ⟨hr.own, fun b hb => by show (if _ then _ else _) = _; rw [hr.col b hb, if_neg hc]⟩
  have hb := h.bs.step hs (by decide)
  have ht := h.tm.step hs (by decide) (by decide)
  have hl := h.ot.len
  refine ⟨⟨hb.below, fun k hk => by show (if _ then _ else _) = _; rw [hb.old k hk, if_neg (by decide)]⟩, ⟨recol ht.texts (by decide), ht.map, by show (if _ then _ else _) = _; rw [ht.col, if_neg (by decide)]⟩, ⟨?_, by simp [hl], fun j hj hj' => ?_⟩, fun j k hj hk hne g hg hgk => ?_⟩
  · rw [← stsV_snoc L (fin, va), List.length_append]
    exact recol hr (by decide)
  · by_cases e : j < L.length
    · rw [List.getElem_append_left e, List.getElem_append_left (by omega)]
      exact ⟨(h.ot.each j e (by omega)).1, recol ((h.ot.each j e (by omega)).2.step hs (by decide)) (by decide)⟩
    · have e' : j = L.length := by simp at hj; omega
      subst e'
      simp only [List.getElem_append_right (Nat.le_refl _), Nat.sub_self, List.getElem_cons_zero]
      have : (out ++ [(⟨fin, arcs⟩ : Au.St)])[L.length] = ⟨fin, arcs⟩ := by simp only [hl, List.getElem_append_right (Nat.le_refl _), Nat.sub_self, List.getElem_cons_zero]
      rw [this]
      refine ⟨rfl, (h.cs.arcs.step hs (by decide)).own, fun b hb => ?_⟩
      show (if _ then _ else _) = _
      rw [(h.cs.arcs.step hs (by decide)).col b hb, if_pos rfl]
  · have key : ∀ j (hj : j < L.length) g, L[j].2.ownBlock = some g → κ g = 5 := fun j hj g hg => (h.ot.each j hj (by omega)).2.col g hg
    have hva : ∀ g, va.ownBlock = some g → κ g = 6 := fun g hg => h.cs.arcs.col g hg
    by_cases e1 : j < L.length
    · rw [List.getElem_append_left e1] at hg
      by_cases e2 : k < L.length
      · rw [List.getElem_append_left e2] at hgk
        exact h.ap j k e1 e2 hne g hg hgk
      · have e' : k = L.length := by simp at hk; omega
        subst e'
        simp at hgk
        have h1 := key j e1 g hg
        have h2 := hva g hgk
        omega
    · have e' : j = L.length := by simp at hj; omega
      subst e'
      simp at hg
      have e2 : k < L.length := by simp at hk; omega
      rw [List.getElem_append_left e2] at hgk
      have h1 := key k e2 g hgk
      have h2 := hva g hg
      omega
end
/-- A slice of states whose lists of arcs are the call's own, each in a block of its own. -/
def StO (B : Nat) (w : World) (v : Value) (d : List Au.St) : Prop :=
  ∃ (vs : List Value) (a : Option Addr) (cap : Nat), vs.length = d.length ∧ v = .slice a d.length cap ∧ d.length ≤ cap ∧ cap ≤ 9223372036854775807 ∧
    (0 < d.length → ∃ g, a = some ⟨g, 0, none⟩ ∧ g < w.heap.size ∧ B ≤ g ∧ (∃ cs fz, w.heap[g]? = some (.cells cs 42 fz)) ∧ ∀ j (h : j < d.length) (h2 : j < vs.length), w.cell? ⟨g, j * 2, none⟩ = some (.bool d[j].fin) ∧ w.cell? ⟨g, j * 2 + 1, none⟩ = some vs[j]) ∧
    (∀ j (h : j < d.length) (h2 : j < vs.length), OwnA w B vs[j] d[j].arcs) ∧ ∀ j k (hj : j < vs.length) (hk : k < vs.length), j ≠ k → ∀ g, vs[j].ownBlock = some g → vs[k].ownBlock ≠ some g
theorem StO.sts {B : Nat} {w : World} {v : Value} {d : List Au.St} (h : StO B w v d) : StS (fun g => B ≤ g) w v d := by
  obtain ⟨vs, a, cap, h0, h1, h2, h3, h4, h5, _⟩ := h
  refine ⟨a, cap, h1, h2, h3, fun hp => ?_⟩
  obtain ⟨g, k1, k2, k3, _, k5⟩ := h4 hp
  refine ⟨g, 0, k1, k2, k3, fun j hj => ?_⟩
  obtain ⟨t1, t2⟩ := k5 j hj (by omega)
  rw [Nat.zero_add]
  exact ⟨t1, vs[j]'(by omega), t2, (h5 j hj (by omega)).arcs _ fun g hg => hg⟩
theorem ownA_base {w : World} {B C : Nat} {v : Value} {l : List Au.Arc} (h : OwnA w B v l) (hC : C ≤ B) : OwnA w C v l := ownsRow_base h hC
theorem StO.lower {B C : Nat} {w : World} {v : Value} {d : List Au.St} (h : StO B w v d) (hC : C ≤ B) : StO C w v d := by
  obtain ⟨vs, a, cap, h0, h1, h2, h3, h4, h5, h6⟩ := h
  refine ⟨vs, a, cap, h0, h1, h2, h3, fun hp => ?_, fun j hj hj2 => ownA_base (h5 j hj hj2) hC, h6⟩
  obtain ⟨g, k1, k2, k3, k4, k5⟩ := h4 hp
  exact ⟨g, k1, k2, by omega, k4, k5⟩
theorem StO.nil (B : Nat) (w : World) : StO B w (.slice none 0 0) [] := ⟨[], none, 0, rfl, rfl, Nat.le_refl _, by omega, fun h => by simp at h, fun j h => by simp at h, fun j k h => by simp at h⟩
theorem OT.sto {w : World} {κ : Nat → Nat} {vo : Value} {L : List (Bool × Value)} {out : List Au.St} {B : Nat} (h : OT w κ vo L out) (ha : ApartL L) (hB : ∀ g, g < w.heap.size → κ g = 4 ∨ κ g = 5 → B ≤ g) : StO B w vo out := by
  obtain ⟨a, cap, h1, h2, h3, h4⟩ := h.outs.form
  have hl := h.len
  rw [hl] at h1 h2
  refine ⟨L.map Prod.snd, a, cap, by rw [List.length_map]; exact hl, h1, h2, h3, fun h0 => ?_, fun j hj hj2 => ?_, fun j k hj hk hne g hg hgk => ?_⟩
  · obtain ⟨g, h5, h6, h7, _, h8⟩ := h4 (by omega)
    have hkd := h.outs.kind
    have hob : vo.ownBlock = some g := by rw [h1, h5]; rfl
    refine ⟨g, h5, h6, hB g h6 (.inl h7), hkd g hob, fun j hj hj2 => ?_⟩
    obtain ⟨t1, _⟩ := h.each j (by omega) hj
    obtain ⟨c1, c2⟩ := stsV_at L j (by omega)
    rw [List.getElem_map]
    exact ⟨(h8 _ _ c1).trans (by rw [t1]), h8 _ _ c2⟩
  · rw [List.getElem_map]
    have hr := (h.each j (by omega) hj).2
    rcases hr.own.2 with ⟨e1, e0⟩ | ⟨g, c, cur, e1, eg, eh, r1, r2, r3, r4⟩
    · exact ⟨hr.own.1, .inl ⟨e1, e0⟩⟩
    · have hob : L[j].2.ownBlock = some g := by rw [e1]; rfl
      exact ⟨hr.own.1, .inr ⟨g, c, cur, e1, hB g (hr.lt g hob).1 (.inr (hr.lt g hob).2), eh, r1, r2, r3, r4⟩⟩
  · rw [List.getElem_map] at hg hgk
    exact ha j k (by simpa using hj) (by simpa using hk) hne g hg hgk
end Go.Proofs.YthhfmcikfdagiaaDoor

/-
  The program's told: the walk.
-/
namespace Go.Proofs.YthhfmcikfdagiaaDoor
open Go.RowKit Go.Maps
namespace Au
theorem trs_hi (C : Cls) (l : List Arc) (h : ∀ a ∈ l, 0 ≤ a.hi ∧ a.hi < 256) : ∀ x ∈ trs C l, x.hi < 256 := fun x hx => by
  unfold trs at hx
  obtain ⟨a, ha, e⟩ := List.mem_filterMap.1 hx
  split at e
  · cases e
  · cases e
    have := h a ha
    show a.hi.toNat < 256
    omega
theorem lp_len (W : Walk Nat) (C : Cls) (m : List Nat) (l : List Arc) : (lp W C m l).1.length ≤ m.length + l.length ∧ (lp W C m l).2.length ≤ l.length := by
  rw [lp_leads]
  have h1 := leads_len W m (trs C l) (trs C l).length
  have h2 := leads_arcs W m (trs C l) (trs C l).length
  have h3 := trs_len C l
  exact ⟨by omega, by omega⟩
theorem lp_hi (W : Walk Nat) (C : Cls) (m : List Nat) (l : List Arc) (h : ∀ a ∈ l, 0 ≤ a.hi ∧ a.hi < 256) : ∀ a ∈ (lp W C m l).2, 0 ≤ a.hi ∧ a.hi ≤ 1000 := by
  rw [lp_leads]
  exact leads_hi W m (trs C l) (trs_hi C l h) _
/-- Classes that have states. -/
def Has (n : Nat) (C : Cls) (c : Nat) : Prop := ∃ s, s < n ∧ C.of s = (c : Int)
theorem has_go {d : List St} {C : Cls} (hr : ∀ i (h : i < d.length), Row d.length 256 d[i].arcs) (hm : ∀ s, s < d.length → -1 ≤ C.of s) (s b t : Nat) (_ : Has d.length C s) (h : (quo d C).go s b = some t) : Has d.length C t := by
  unfold quo at h
  dsimp only at h
  cases hs : (ofL d).step ((C.row s).getD 0 0) b with
  | none => rw [hs] at h; cases h
  | some x =>
    rw [hs] at h
    dsimp only at h
    have hx := ofL_in hr hs
    have := hm x hx
    split at h
    · cases h
    · rename_i hne
      cases h
      exact ⟨x, hx, by omega⟩
end Au
theorem no_start (w W : World) (mb g c0 : Nat) (hm : MapN W mb [c0]) (hb : Below w.heap.size w W) (hg : W.heap[g]? = some (.cells #[.int .i64 (c0 : Int)] 3 (0, 0))) (h1 : w.heap.size ≤ mb) (h2 : w.heap.size ≤ g) (hne : mb ≠ g) :
    No w W mb (fun k => if k = mb then 3 else if k = g then 2 else 0) (.slice (some ⟨g, 0, none⟩) 1 1) (.slice none 0 0) [c0] [] [] := by
  refine ⟨⟨hb, fun k hk => ?_⟩, ⟨⟨⟨rfl, .inr ⟨g, 1, _, rfl, Nat.zero_le _, hg, Nat.le_refl _, by unfold maxLen; omega, rfl, rfl⟩⟩, fun b hbb => ?_⟩, hm, if_pos rfl⟩, ⟨RowC.nil _ _ _ _ _, rfl, fun j h => by simp at h⟩, fun j k h => by simp at h⟩
  · show (if _ then _ else _) = _
    rw [if_neg (by omega), if_neg (by omega)]
  · obtain rfl : b = g := by simpa [Value.ownBlock] using hbb.symm
    show (if _ then _ else _) = _
    rw [if_neg (fun e => hne e.symm), if_pos rfl]

set_option maxRecDepth 100000 in
set_option maxHeartbeats 4000000 in
theorem told_any (F : Nat → Prop) (w : World) (u : Value) (d : List Au.St) (n p : Nat) (κ0 : Nat → Nat) (C : Au.Cls) (O : Option Nat → Prop) (hd : d.length = n) (hf : Au.Fits d) (h0 : ¬ Au.Dead (Au.ofL d) (some 0)) (hu : StS F w u d) (hC : ClsM n w p κ0 C) (hI : Au.HInv d O (fun _ => False) C) (hq : C.wq = []) :
    Calls Tryd.prog 42 #[u, .pointer (some ⟨p, 0, none⟩)] w fun e w' => ∃ v, e = .returned v ∧ StO w.heap.size w' v (Au.least d) ∧ Below w.heap.size w w' := by
  have hn2 : n ≤ 20000 := by have := hf.top; omega
  have hn0 : 0 < n := by have := hf.pos; omega
  obtain ⟨ad, cd, rfl, _, _, hdc⟩ := hu
  obtain ⟨gd, od, rfl, lgd, _, hdc⟩ := hdc (by omega)
  have HDC := Lib.hid hdc
  have HDN := Lib.hid hd
  have HROW := Lib.hid (Au.arcsOf_row hf.row)
  have hmin : ∀ s, s < d.length → -1 ≤ C.of s := fun s hs => by
    rcases hI.lt hs with h | h
    · omega
    · omega
  obtain ⟨c0, hc0⟩ : ∃ c0 : Nat, C.of 0 = (c0 : Int) := by
    rcases hI.lt (s := 0) (by omega) with h | h
    · exact absurd ((hI.dead 0 (by omega)).1 h) h0
    · exact ⟨(C.of 0).toNat, by omega⟩
  obtain ⟨W, hW⟩ : ∃ W, W = Au.quo d C := ⟨_, rfl⟩
  obtain ⟨_, _, hmetn⟩ := Au.quo_least hf hI hq c0 hc0
  have hend := fun i => Au.quo_end hf hI hq c0 hc0 i
  have hql := fun c => Au.quo_leads d C hf.row c
  have hrefl : ∀ s, W.same s s = true := fun s => by rw [hW]; exact Au.quo_refl d C s
  have hhas : ∀ i, ∀ x ∈ W.met c0 i, Au.Has d.length C x := fun i => by
    rw [hW]
    exact Au.met_all (Au.quo d C) (Au.Has d.length C) (fun s b t h1 h2 => Au.has_go hf.row hmin s b t h1 h2) c0 ⟨0, hf.pos, hc0⟩ i
  have hfin : ∀ c, W.fin c = (Au.ofL d).fin ((C.row c).getD 0 0) := fun c => by rw [hW]; rfl
  have hsame : W.same = fun a b => decide (a = b) := by rw [hW]; rfl
  rw [← hW] at hmetn hend hql
  obtain ⟨X, bo, ba, vm, vw, vq, hS⟩ := hC
  obtain ⟨b0, _, b2, _, _, _⟩ := hS.cells
  obtain ⟨am, cm, rfl, _, _, hm4⟩ := hS.mem.form
  have hX0 : 0 < X.length := by
    obtain ⟨_, _, hz⟩ := hI.rep (s := 0) (c := c0) (by omega) hc0
    obtain ⟨x, hx⟩ := List.exists_mem_of_length_pos hz
    obtain ⟨j, hj, e⟩ := List.getElem_of_mem hx
    have := Au.row_lt (C := C) (c := c0) (i := j) (s := x) (by rw [List.getElem?_eq_getElem hj, e])
    rw [hS.lenX]
    omega
  obtain ⟨gm, rfl, lgm, _, _, hmc⟩ := hm4 hX0
  have hXn : X.length ≤ n + 1 := by
    have := Au.few_classes hI.ok hI.ne
    rw [hS.lenX]
    omega
  have hplt := hS.plt
  have hbolt := hS.of.lt
  have HCW : Hid (∀ W, Below w.heap.size w W → W.cell? ⟨p, 0, none⟩ = some (.slice (some ⟨bo, 0, none⟩) n n) ∧ W.cell? ⟨p, 2, none⟩ = some (.slice (some ⟨gm, 0, none⟩) X.length cm) ∧ ∀ s, s < n → W.cell? ⟨bo, s, none⟩ = some (.int .i64 (C.of s))) := fun W hb =>
    ⟨(cell_same (a := ⟨p, 0, none⟩) (hb.block p hplt)).trans b0, (cell_same (a := ⟨p, 2, none⟩) (hb.block p hplt)).trans b2, fun s hs => (cell_same (a := ⟨bo, s, none⟩) (hb.block bo hbolt)).trans (hS.of.cell hs)⟩
  have HRW : Hid (∀ c, Au.Has d.length C c → ∃ gr len cp rep, c < X.length ∧ 0 < len ∧ rep < n ∧ rep = (C.row c).getD 0 0 ∧ ∀ W, Below w.heap.size w W → W.cell? ⟨gm, c, none⟩ = some (.slice (some ⟨gr, 0, none⟩) len cp) ∧ W.cell? ⟨gr, 0, none⟩ = some (.int .i64 (rep : Int))) := by
    rintro c ⟨s, hs, hcs⟩
    obtain ⟨hr1, hr2, hr3⟩ := hI.rep hs hcs
    have hcX : c < X.length := by
      obtain ⟨x, hx⟩ := List.exists_mem_of_length_pos hr3
      obtain ⟨j, hj, e⟩ := List.getElem_of_mem hx
      rw [hS.lenX]
      exact Au.row_lt (C := C) (c := c) (i := j) (s := x) (by rw [List.getElem?_eq_getElem hj, e])
    obtain ⟨ar, cp, hx, _, _, hr4⟩ := (hS.each c hcX).form
    obtain ⟨gr, rfl, lgr, _, _, hrx⟩ := hr4 hr3
    refine ⟨gr, (C.row c).length, cp, (C.row c).getD 0 0, hcX, hr3, by omega, rfl, fun W hb => ⟨?_, ?_⟩⟩
    · rw [← hx]
      exact (cell_same (a := ⟨gm, c, none⟩) (hb.block gm lgm)).trans (hmc c X[c] (List.getElem?_eq_getElem hcX))
    · exact (cell_same (a := ⟨gr, 0, none⟩) (hb.block gr lgr)).trans (hrx 0 _ (by
        cases hrow : C.row c with
        | nil => rw [hrow] at hr3; simp at hr3
        | cons x r => rfl))
  have HEND := Lib.hid hend
  have HQL := Lib.hid hql
  have HREFL := Lib.hid hrefl
  have HHAS := Lib.hid hhas
  have HFIN := Lib.hid hfin
  have HSAME := Lib.hid hsame
  have HMETN := Lib.hid hmetn
  have HOF := Lib.hid hmin
  rw [hd]
  clear hdc hd hf h0 hS b0 b2 hm4 hmc hI hq hend hql hrefl hhas hfin hsame hmetn hW hmin
  have hc0X : c0 < X.length := by
    obtain ⟨_, _, _, _, h, _⟩ := HRW.out c0 ⟨0, by rw [HDN.out]; exact hn0, hc0⟩
    exact h
  have k0 := keyN_of (c := c0) (by omega)
  have hmm := @run_makeMap Tryd.prog
  have hbA0 : Below w.heap.size w (w.alloc (.map #[] 0)).drew := ((Below.refl _ _).alloc (Nat.le_refl _) _).drew
  have hbB0 : Below w.heap.size w ((w.alloc (.map #[] 0)).alloc (.cells #[.int .i64 (c0 : Int)] 3)).drew := (((Below.refl _ _).alloc (Nat.le_refl _) _).alloc (by simp) _).drew
  have hbC0 : Below w.heap.size w ((w.alloc (.cells #[.int .i64 (c0 : Int)] 3)).alloc (.map #[] 0)).drew := (((Below.refl _ _).alloc (Nat.le_refl _) _).alloc (by simp) _).drew
  have hbD0 : Below w.heap.size w (w.alloc (.cells #[.int .i64 (c0 : Int)] 3)).drew := ((Below.refl _ _).alloc (Nat.le_refl _) _).drew
  obtain ⟨wA, rA, hmA, hgA⟩ := run_updG (w.alloc (.map #[] 0)).drew lawIn Tryd.underlying111 ((mapG_made 3 w).keep rfl) (by decide) k0 (.int .i64 0)
  obtain ⟨wB, rB, hmB, hgB⟩ := run_updG ((w.alloc (.map #[] 0)).alloc (.cells #[.int .i64 (c0 : Int)] 3)).drew lawIn Tryd.underlying111 ((mapG_made 3 w).keep (Go.Deep.blk_alloc_lt _ _ _ (by simp))) (by decide) k0 (.int .i64 0)
  obtain ⟨wC, rC, hmC, hgC⟩ := run_updG ((w.alloc (.cells #[.int .i64 (c0 : Int)] 3)).alloc (.map #[] 0)).drew lawIn Tryd.underlying111 ((mapG_made 3 (w.alloc (.cells #[.int .i64 (c0 : Int)] 3))).keep rfl) (by decide) k0 (.int .i64 0)
  have mapS : ∀ {W : World} {mb : Nat}, MapG 3 W mb 1 (updG (fun _ => none) (keyN c0) (some (.int .i64 0))) → MapN W mb [c0] := fun {W mb} h => by
    refine mapN_new (E := []) (F := fun _ => none) (b := c0) h (fun s => rfl) rfl
  have hszA : w.heap.size + 1 ≤ wA.heap.size := by have := hgA.size; simp at this; omega
  have hbA : Below w.heap.size w wA := hbA0.grown hgA (by simp) (fun k hk => by cases hk; exact Nat.le_refl _)
  have hbB : Below w.heap.size w wB := hbB0.grown hgB (by simp; omega) (fun k hk => by cases hk; exact Nat.le_refl _)
  have hbC : Below w.heap.size w wC := hbC0.grown hgC (by simp; omega) (fun k hk => by cases hk; simp)
  have hbA2 : Below w.heap.size w (wA.alloc (.cells #[.int .i64 (c0 : Int)] 3)) := hbA.alloc hbA.size _
  have HNA : Hid (No w (wA.alloc (.cells #[.int .i64 (c0 : Int)] 3)) w.heap.size (fun k => if k = w.heap.size then 3 else if k = wA.heap.size then 2 else 0) (.slice (some ⟨wA.heap.size, 0, none⟩) 1 1) (.slice none 0 0) [c0] [] []) := by
    obtain ⟨F', hm', hF'⟩ := mapS hmA
    exact no_start w _ _ _ c0 ⟨F', hm'.keep (Go.Deep.blk_alloc_lt _ _ _ (by omega)), hF'⟩ hbA2 (Go.Deep.blk_alloc_new _ _) (Nat.le_refl _) (by omega) (by omega)
  have HNB : Hid (No w wB w.heap.size (fun k => if k = w.heap.size then 3 else if k = w.heap.size + 1 then 2 else 0) (.slice (some ⟨w.heap.size + 1, 0, none⟩) 1 1) (.slice none 0 0) [c0] [] []) := by
    refine no_start w _ _ _ c0 (mapS hmB) hbB ?_ (Nat.le_refl _) (by omega) (by omega)
    have h1 := Go.Deep.blk_alloc_new (w.alloc (.map #[] 0)) (.cells #[.int .i64 (c0 : Int)] 3)
    have h2 : (w.alloc (.map #[] 0)).heap.size = w.heap.size + 1 := by simp
    rw [h2] at h1
    exact (hgB.block (w.heap.size + 1) (by simp) (fun e => by simp at e)).trans h1
  have HNC : Hid (No w wC (w.heap.size + 1) (fun k => if k = w.heap.size + 1 then 3 else if k = w.heap.size then 2 else 0) (.slice (some ⟨w.heap.size, 0, none⟩) 1 1) (.slice none 0 0) [c0] [] []) := by
    have h2 : (w.alloc (.cells #[.int .i64 (c0 : Int)] 3)).heap.size = w.heap.size + 1 := by simp
    rw [h2] at hmC hgC
    refine no_start w _ _ _ c0 (mapS hmC) hbC ?_ (by omega) (Nat.le_refl _) (by omega)
    have h1 := (Go.Deep.blk_alloc_lt (w.alloc (.cells #[.int .i64 (c0 : Int)] 3)) (.map #[] 0) w.heap.size (by simp)).trans (Go.Deep.blk_alloc_new w (.cells #[.int .i64 (c0 : Int)] 3))
    exact (hgC.block w.heap.size (by simp; omega) (fun e => by simp at e)).trans h1
  have HK : Hid (∀ W, Below w.heap.size w W → W.cell? ⟨p, 0, none⟩ = some (.slice (some ⟨bo, 0, none⟩) n n) ∧ W.cell? ⟨bo, 0, none⟩ = some (.int .i64 (c0 : Int))) := fun W hb => by
    obtain ⟨h1, _, h3⟩ := HCW.out W hb
    exact ⟨h1, by rw [h3 0 hn0, hc0]⟩
  have h2C : (w.alloc (.cells #[.int .i64 (c0 : Int)] 3)).heap.size = w.heap.size + 1 := by simp
  rw [h2C] at rC
  clear hmA hgA hmB hgB hmC hgC mapS h2C
  go_enter Tryd.func42, Tryd.ntmps42
  go_upto_region 1 with (fail)
  go_cut [5, 6] (fun s5 s6 wx => ∃ mb g κ, s5 = .map (some mb) ∧ s6 = .slice (some ⟨g, 0, none⟩) 1 1 ∧ Hid (No w wx mb κ s6 (.slice none 0 0) [c0] [] []))
  case first =>
    go_region_held3 (fun wx => wx.cell? ⟨p, 0, none⟩ = some (.slice (some ⟨bo, 0, none⟩) n n) ∧ wx.cell? ⟨bo, 0, none⟩ = some (.int .i64 (c0 : Int))) (first | exact HK.out _ (Below.refl _ _).drew | exact HK.out _ hbA0 | exact HK.out _ hbB0 | exact HK.out _ hbC0 | exact HK.out _ hbD0 | exact HK.out _ hbA | exact HK.out _ hbB | exact HK.out _ hbC | exact HK.out _ hbA2) (fail)
    all_goals
      go_wp2_with fail
      go_meet
      first
        | exact ⟨_, _, _, rfl, rfl, HNA⟩
        | exact ⟨_, _, _, rfl, rfl, HNB⟩
        | exact ⟨_, _, _, rfl, rfl, HNC⟩
  case rest =>
    obtain ⟨mb, g, κ, rfl, rfl, H0⟩ := hcut
    have H1 : Hid (No w wc mb κ (.slice (some ⟨g, 0, none⟩) 1 1) (.slice none 0 0) (W.met c0 0) [] (W.out c0 0)) := H0
    clear rA rB rC hbA0 hbB0 hbC0 hbD0 hbA hbB hbC hbA2 HNA HNB HNC HK hszA H0 hmm k0 hc0X
    go_wp2_with fail
    go_loopg [6, 7] (n + 1) (fun gg s6 s7 wx => ∃ (i : Nat) (κ : Nat → Nat) (L : List (Bool × Value)), i ≤ n ∧ gg = n + 1 - i ∧ i ≤ (W.met c0 i).length ∧ Hid (No w wx mb κ s6 s7 (W.met c0 i) L (W.out c0 i)))
    case atStart => exact ⟨0, _, [], Nat.zero_le _, rfl, Nat.zero_le _, H1⟩
    case round =>
      clear H1
      obtain ⟨i, κ, L, hi, rfl, hil, hNo⟩ := hrel
      have hLi : L.length = i := by rw [hNo.out.ot.len, Au.out_length]; omega
      have hF1 := hNo.out.tm.texts.form
      have hF2 := hNo.out.ot.outs.form
      rw [hLi] at hF2
      obtain ⟨a6, cp6, rfl, _, _, ht3⟩ := hF1
      obtain ⟨a7, cp7, rfl, _, _, _⟩ := hF2
      have hmn : (W.met c0 i).length ≤ n := by
        have := HMETN.out i
        rw [HDN.out] at this
        exact this
      by_cases him : i < (W.met c0 i).length
      · have j1 : (i : Int) < (((W.met c0 i).length : Nat) : Int) := by omega
        obtain ⟨g6, rfl, _, _, _, hc6⟩ := ht3 (by omega)
        have r1 := hc6 i (.int .i64 ((W.met c0 i)[i] : Int)) (by simp [natsV, him])
        have hai : Hid ((W.met c0 i)[i]? = some (W.met c0 i)[i]) := List.getElem?_eq_getElem him
        have hSL := Lib.hid (fun Z h => Au.states_leads W HREFL.out c0 _ i hai.out Z h)
        obtain ⟨gr, len, cpr, rep, hcX, hlen, hrn, hrep, hcells⟩ := HRW.out _ (HHAS.out i _ (List.getElem_mem him))
        have hfr : Hid (W.fin (W.met c0 i)[i] = (Au.ofL d).fin rep) := by rw [hrep]; exact HFIN.out _
        have hqr : Hid (Au.Leads W (W.met c0 i)[i] 0 (Au.trs C (Au.arcsOf d rep))) := by rw [hrep]; exact HQL.out _
        have hgl : Hid (i + 1 ≤ (W.met c0 (i + 1)).length) := by
          obtain ⟨r, hr⟩ := Au.met_grows W c0 i
          show _ ≤ _
          rw [hr, List.length_append]
          omega
        have hrd : rep < d.length := by rw [HDN.out]; exact hrn
        obtain ⟨e1, va, e2, hA⟩ := HDC.out rep hrd
        have hao : Au.arcsOf d rep = d[rep].arcs := by simp [Au.arcsOf, List.getElem?_eq_getElem hrd]
        have hfo : (Au.ofL d).fin rep = d[rep].fin := by simp [Au.ofL, List.getElem?_eq_getElem hrd]
        rw [← hao] at hA
        rw [hfo] at hfr
        have hrw : Hid (Au.Row n 256 (Au.arcsOf d rep)) := by
          have h := HROW.out rep
          rw [HDN.out] at h
          exact h
        have hm2 : (Au.arcsOf d rep).length ≤ 256 := by have := Au.row_few hrw.out; omega
        obtain ⟨aa, ca, rfl, _, _, hac⟩ := hA
        obtain ⟨m, hm⟩ : ∃ m, m = (Au.arcsOf d rep).length := ⟨_, rfl⟩
        have HM := Lib.hid hm
        have HAC := Lib.hid hac
        rw [← hm] at hm2 e2
        generalize d[rep].fin = fin at *
        have HS : Hid (∀ W', Below wr.heap.size wr W' → W'.cell? ⟨p, 2, none⟩ = some (.slice (some ⟨gm, 0, none⟩) X.length cm) ∧ W'.cell? ⟨g6, i, none⟩ = some (.int .i64 ((W.met c0 i)[i] : Int)) ∧ W'.cell? ⟨gm, (W.met c0 i)[i], none⟩ = some (.slice (some ⟨gr, 0, none⟩) len cpr) ∧ W'.cell? ⟨gr, 0, none⟩ = some (.int .i64 (rep : Int)) ∧ W'.cell? ⟨gd, od + rep * 2, none⟩ = some (.bool fin) ∧ W'.cell? ⟨gd, od + rep * 2 + 1, none⟩ = some (.slice aa m ca)) := fun W' hb => by
          have hbw : Below w.heap.size w W' := chain hNo.out.bs.below hb
          obtain ⟨q1, q2⟩ := hcells W' hbw
          obtain ⟨_, q3, _⟩ := HCW.out W' hbw
          exact ⟨q3, (cell_same (a := ⟨g6, i, none⟩) (hb.block g6 (by assumption))).trans r1, q1, q2, (cell_same (a := ⟨gd, od + rep * 2, none⟩) (hbw.block gd lgd)).trans e1, (cell_same (a := ⟨gd, od + rep * 2 + 1, none⟩) (hbw.block gd lgd)).trans e2⟩
        have hMl : Hid ((W.met c0 i).length ≤ n) := hmn
        have hLd0 := Lib.hid hLi
        have j2 : ((W.met c0 i)[i] : Int) < (X.length : Int) := by omega
        have j3 : (0 : Int) < (len : Int) := by omega
        have j4 : (rep : Int) < (n : Int) := by omega
        clear hc6 ht3 hai hcells e1 e2 hac hao hfo hrep hm r1
        generalize (W.met c0 i)[i] = cc at *
        go_upto_region 4 with (fail)
        go_region_held3 (fun W' => W'.cell? ⟨p, 2, none⟩ = some (.slice (some ⟨gm, 0, none⟩) X.length cm) ∧ W'.cell? ⟨g6, i, none⟩ = some (.int .i64 (cc : Int)) ∧ W'.cell? ⟨gm, cc, none⟩ = some (.slice (some ⟨gr, 0, none⟩) len cpr) ∧ W'.cell? ⟨gr, 0, none⟩ = some (.int .i64 (rep : Int)) ∧ W'.cell? ⟨gd, od + rep * 2, none⟩ = some (.bool fin) ∧ W'.cell? ⟨gd, od + rep * 2 + 1, none⟩ = some (.slice aa m ca)) (first | exact HS.out _ (Below.refl _ _).drew | exact HS.out _ ((Below.refl _ _).alloc (Nat.le_refl _) _).drew) (fail)
        have HO1 : Hid (No w (wr.alloc (.cells #[.bool fin, .slice aa m ca] 42)).drew mb (paint κ wr.heap.size 9) (.slice (some ⟨g6, 0, none⟩) (W.met c0 i).length cp6) (.slice a7 i cp7) (W.met c0 i) L (W.out c0 i)) := (hNo.out.step (Step.of_alloc wr _) (by decide)).drew
        have hDb : Hid ((wr.alloc (.cells #[.bool fin, .slice aa m ca] 42)).drew.heap[wr.heap.size]? = some (.cells #[.bool fin, .slice aa m ca] 42 (0, 0))) := Go.Deep.blk_alloc_new _ _
        clear hNo HS
        generalize (wr.alloc (.cells #[.bool fin, .slice aa m ca] 42)).drew = w2 at *
        generalize wr.heap.size = D at *
        generalize paint κ D 9 = κ2 at *
        have d0 : w2.cell? ⟨D, 0, none⟩ = some (.bool fin) := by have h := hDb.out; simp [World.cell?, h]
        have d1 : w2.cell? ⟨D, 1, none⟩ = some (.slice aa m ca) := by have h := hDb.out; simp [World.cell?, h]
        have hDl : D < w2.heap.size := (Array.getElem?_eq_some_iff.1 hDb.out).1
        have d2 : (w2.alloc (.cells #[.bool fin, .slice none 0 0] 42)).cell? ⟨D, 1, none⟩ = some (.slice aa m ca) := (World.cell?_alloc_past _ _ _ hDl).trans d1
        have HI1 : Hid (Ni w (w2.alloc (.cells #[.bool fin, .slice none 0 0] 42)) mb w2.heap.size (paint κ2 w2.heap.size 7) (.slice (some ⟨g6, 0, none⟩) (W.met c0 i).length cp6) (.slice a7 i cp7) (.slice none 0 0) (Au.lp W C (W.met c0 i) ((Au.arcsOf d rep).take 0)).1 L (W.out c0 i) fin (Au.lp W C (W.met c0 i) ((Au.arcsOf d rep).take 0)).2) := HO1.out.open fin
        clear HO1 hDb
        go_wp2_with fail
        clear d0 d1 d2
        generalize w2.alloc (.cells #[.bool fin, .slice none 0 0] 42) = w3 at *
        generalize w2.heap.size = sb at *
        go_loopg [6, 57] m (fun gg s6 s57 wx => ∃ (k : Nat) (κ : Nat → Nat) (va : Value), k ≤ m ∧ gg = m - k ∧ s57 = .int .i64 k ∧ Hid (Ni w wx mb sb κ s6 (.slice a7 i cp7) va (Au.lp W C (W.met c0 i) ((Au.arcsOf d rep).take k)).1 L (W.out c0 i) fin (Au.lp W C (W.met c0 i) ((Au.arcsOf d rep).take k)).2))
        case atStart => exact ⟨0, _, _, Nat.zero_le _, rfl, rfl, HI1⟩
        case round =>
          clear HI1
          obtain ⟨k, κ, va, hk, rfl, rfl, hNi⟩ := hrel
          by_cases hkm : k < m
          · have j5 : (k : Int) < (m : Int) := by omega
            have hkl : k < (Au.arcsOf d rep).length := by rw [← HM.out]; exact hkm
            obtain ⟨g2, o2, rfl, lg2, _, hcc⟩ := HAC.out (by omega)
            obtain ⟨x1, x2, x3⟩ := hcc k hkl
            have hbl := hNi.out.bs.below
            have y1 := (cell_same (a := ⟨g2, o2 + k * 3, none⟩) (hbl.block g2 lg2)).trans x1
            have y2 := (cell_same (a := ⟨g2, o2 + k * 3 + 1, none⟩) (hbl.block g2 lg2)).trans x2
            have y3 := (cell_same (a := ⟨g2, o2 + k * 3 + 2, none⟩) (hbl.block g2 lg2)).trans x3
            obtain ⟨z1, z2, z3, z4, z5⟩ := hrw.out.1 k hkl
            have hnx := Lib.hid (Au.lp_snoc W C (W.met c0 i) ((Au.arcsOf d rep).take k) (Au.arcsOf d rep)[k])
            rw [← List.take_succ_eq_append_getElem hkl] at hnx
            obtain ⟨l1, l2⟩ := Au.lp_len W C (W.met c0 i) ((Au.arcsOf d rep).take k)
            have l3 := List.length_take_le k (Au.arcsOf d rep)
            have hah := Lib.hid (Au.lp_hi W C (W.met c0 i) ((Au.arcsOf d rep).take k) (fun a ha => by
              obtain ⟨j, hj, rfl⟩ := List.getElem_of_mem (List.mem_of_mem_take ha)
              have := hrw.out.1 j hj
              omega))
            clear x1 x2 x3 hcc hbl
            generalize (Au.arcsOf d rep)[k] = arc at *
            obtain ⟨alo, ahi, ato⟩ := arc
            dsimp only at y1 y2 y3 hnx z1 z2 z3 z4 z5
            obtain ⟨lo, rfl⟩ : ∃ x : Nat, alo = (x : Int) := ⟨alo.toNat, by omega⟩
            obtain ⟨hi', rfl⟩ : ∃ x : Nat, ahi = (x : Int) := ⟨ahi.toNat, by omega⟩
            obtain ⟨tt, rfl⟩ : ∃ x : Nat, ato = (x : Int) := ⟨ato.toNat, by omega⟩
            simp only [Int.toNat_natCast] at hnx
            have htn : tt < n := by omega
            have hof := HOF.out tt (by rw [HDN.out]; exact htn)
            have hbd : ∀ b : Nat, C.of tt = (b : Int) → b ≤ 20000 := fun b hb => by
              obtain ⟨_, _, _, _, h, _⟩ := HRW.out b ⟨tt, by rw [HDN.out]; exact htn, hb⟩
              omega
            obtain ⟨x, hx⟩ : ∃ x, C.of tt = x := ⟨_, rfl⟩
            rw [hx] at hof hbd hnx
            have HI2 := Lib.hid (hNi.out.step (Step.of_alloc wr (.cells #[.int .i64 (lo : Int), .int .i64 (hi' : Int), .int .i64 (tt : Int)] 63)) (Nat.le_refl 9)).drew
            have hDb : Hid ((wr.alloc (.cells #[.int .i64 (lo : Int), .int .i64 (hi' : Int), .int .i64 (tt : Int)] 63)).heap[wr.heap.size]? = some (.cells #[.int .i64 (lo : Int), .int .i64 (hi' : Int), .int .i64 (tt : Int)] 63 (0, 0))) := Go.Deep.blk_alloc_new _ _
            have hkD : Hid (paint κ wr.heap.size 9 wr.heap.size = 9) := paint_new _ _ _ _ (Nat.le_refl _)
            have HS2 : Hid (∀ W', Below (wr.alloc (.cells #[.int .i64 (lo : Int), .int .i64 (hi' : Int), .int .i64 (tt : Int)] 63)).heap.size (wr.alloc (.cells #[.int .i64 (lo : Int), .int .i64 (hi' : Int), .int .i64 (tt : Int)] 63)) W' → W'.cell? ⟨p, 0, none⟩ = some (.slice (some ⟨bo, 0, none⟩) n n) ∧ W'.cell? ⟨wr.heap.size, 2, none⟩ = some (.int .i64 (tt : Int)) ∧ W'.cell? ⟨bo, tt, none⟩ = some (.int .i64 x)) := fun W' hb => by
              have hbw : Below w.heap.size w W' := chain hNi.out.bs.below (chain ((Below.refl _ _).alloc (Nat.le_refl _) _) hb)
              obtain ⟨q1, _, q3⟩ := HCW.out W' hbw
              have h := (hb.block wr.heap.size (by simp)).trans hDb.out
              exact ⟨q1, by simp [World.cell?, h], by rw [q3 tt htn, hx]⟩
            have j6 : (tt : Int) < (n : Int) := by omega
            clear hNi hx
            go_upto_region 9 with (fail)
            generalize wr.alloc (.cells #[.int .i64 (lo : Int), .int .i64 (hi' : Int), .int .i64 (tt : Int)] 63) = w4 at *
            generalize wr.heap.size = D2 at *
            generalize paint κ D2 9 = κ4 at *
            go_region_held3 (fun W' => W'.cell? ⟨p, 0, none⟩ = some (.slice (some ⟨bo, 0, none⟩) n n) ∧ W'.cell? ⟨D2, 2, none⟩ = some (.int .i64 (tt : Int)) ∧ W'.cell? ⟨bo, tt, none⟩ = some (.int .i64 x)) (first | exact HS2.out _ (Below.refl _ _).drew) (fail)
            have hDb2 : Hid (w4.drew.heap[D2]? = some (.cells #[.int .i64 (lo : Int), .int .i64 (hi' : Int), .int .i64 (tt : Int)] 63 (0, 0))) := hDb.out
            clear HS2 hDb y1 y2 y3
            generalize w4.drew = w5 at *
            by_cases hx1 : x = -1
            · subst hx1
              rw [if_pos rfl] at hnx
              clear hDb2 hkD
              go_wp2_with fail
              go_roundg (m - (k + 1))
              case rel => exact ⟨k + 1, _, _, by omega, rfl, by go_num, by rw [hnx.out]; exact HI2⟩
              case measure => omega
            · rw [if_neg hx1] at hnx
              obtain ⟨b, rfl⟩ : ∃ b : Nat, x = (b : Int) := ⟨x.toNat, by omega⟩
              have hb2 := hbd b rfl
              have hk2 := keyN_of (c := b) (by omega)
              rw [Int.toNat_natCast] at hnx
              have hnx1 : Hid ((Au.lp W C (W.met c0 i) ((Au.arcsOf d rep).take (k + 1))).1 = if Au.idxN (Au.lp W C (W.met c0 i) ((Au.arcsOf d rep).take k)).1 b = (Au.lp W C (W.met c0 i) ((Au.arcsOf d rep).take k)).1.length then (Au.lp W C (W.met c0 i) ((Au.arcsOf d rep).take k)).1 ++ [b] else (Au.lp W C (W.met c0 i) ((Au.arcsOf d rep).take k)).1) := by
                show _ = _
                rw [hnx.out]
                unfold Au.Walk.lead
                rw [HSAME.out]
                rfl
              have hnx2 : Hid ((Au.lp W C (W.met c0 i) ((Au.arcsOf d rep).take (k + 1))).2 = Au.joined (Au.lp W C (W.met c0 i) ((Au.arcsOf d rep).take k)).2 lo hi' (Au.idxN (Au.lp W C (W.met c0 i) ((Au.arcsOf d rep).take k)).1 b)) := by
                show _ = _
                rw [hnx.out]
                unfold Au.Walk.lead
                rw [HSAME.out]
                rfl
              have hidl := Au.idxN_le (Au.lp W C (W.met c0 i) ((Au.arcsOf d rep).take k)).1 b
              obtain ⟨a6', cp6', rfl, _, _, _⟩ := HI2.out.tm.texts.form
              have hElen : (Au.lp W C (W.met c0 i) ((Au.arcsOf d rep).take k)).1.length ≤ 20512 := by omega
              have harl : (Au.lp W C (W.met c0 i) ((Au.arcsOf d rep).take k)).2.length ≤ 1000 := by omega
              clear hnx hbd hof l1 l2 l3
              generalize (Au.lp W C (W.met c0 i) ((Au.arcsOf d rep).take k)).1 = E at *
              generalize (Au.lp W C (W.met c0 i) ((Au.arcsOf d rep).take k)).2 = ar at *
              obtain ⟨F', hMF, hFE⟩ := HI2.out.tm.map
              have hF1 := hFE b
              have HFE := Lib.hid hFE
              have HMF := Lib.hid hMF
              have hq : Hid (D2 < w5.heap.size ∧ κ4 D2 = 9) := ⟨(Array.getElem?_eq_some_iff.1 hDb2.out).1, hkD.out⟩
              have d0 : w5.cell? ⟨D2, 0, none⟩ = some (.int .i64 (lo : Int)) := by have h := hDb2.out; simp [World.cell?, h]
              have d1 : w5.cell? ⟨D2, 1, none⟩ = some (.int .i64 (hi' : Int)) := by have h := hDb2.out; simp [World.cell?, h]
              have HLE : Hid (∀ wx κx wy κy, Step κ4 3 w5 wx κx → Step κx 2 wx wy κy → wy.cell? ⟨D2, 0, none⟩ = some (.int .i64 (lo : Int)) ∧ wy.cell? ⟨D2, 1, none⟩ = some (.int .i64 (hi' : Int))) := fun wx κx wy κy h h' => by
                have hb1 := h.block D2 hq.out.1 (by rw [hq.out.2]; decide)
                have hc1 := (h.col D2 hq.out.1).trans hq.out.2
                have hb2 := h'.block D2 (Nat.lt_of_lt_of_le hq.out.1 h.size) (by rw [hc1]; decide)
                exact ⟨(cell_same (a := ⟨D2, 0, none⟩) (hb2.trans hb1)).trans d0, (cell_same (a := ⟨D2, 1, none⟩) (hb2.trans hb1)).trans d1⟩
              have HJO : Hid (∀ wx vt' κ' E' (k' : Nat), Ni w wx mb sb κ' vt' (.slice a7 i cp7) va E' L (W.out c0 i) fin ar →
                (wx.cell? ⟨sb, 1, none⟩ = some va) ∧ Calls Tryd.prog 32 #[va, .agg #[.int .i64 (lo : Int), .int .i64 (hi' : Int), .int .i64 (k' : Int)]] wx fun e w' => ∃ a8 n8 cp8, e = .returned (.slice a8 n8 cp8) ∧ w'.cell? ⟨sb, 1, none⟩ = some va ∧ w'.frozen? ⟨sb, 1, none⟩ = false ∧
                  Hid (Ni w (w'.setCell ⟨sb, 1, none⟩ (.slice a8 n8 cp8)) mb sb (paint κ' wx.heap.size 6) vt' (.slice a7 i cp7) (.slice a8 n8 cp8) E' L (W.out c0 i) fin (Au.joined ar lo hi' k'))) := fun wx vt' κ' E' k' h => by
                refine ⟨h.cs.cells.2.1, (joined_any wx 0 va ar lo hi' k' h.cs.arcs.own (Nat.zero_le _) harl hah.out ⟨by omega, by omega⟩).mono fun e w' hh => ?_⟩
                obtain ⟨v', rfl, ho, ht⟩ := hh
                obtain ⟨a8, cp8, rfl, _⟩ := ho.opened
                obtain ⟨⟨s1, s2⟩, s3⟩ := h.grow ht ho
                exact ⟨a8, _, cp8, rfl, s1, s2, s3⟩
              clear hFE hMF
              by_cases hix : Au.idxN E b = E.length
              · unfold plN at hF1
                rw [if_pos hix] at hF1
                have HPL := Lib.hid (fun wx (h5 : w5.grownBy wx (some mb)) => HI2.out.place h5)
                have HPU := Lib.hid (fun wx h5 κ' h5s wy vt' hr6 hs6 => HI2.out.push (b := b) (w' := wx) (κ' := κ') (w2 := wy) (vt' := vt') (mapN_new h5 HFE.out hix) h5s hr6 hs6)
                rw [hix, if_pos rfl] at hnx1
                rw [hix] at hnx2
                clear hix HI2 hDb2 d0 d1
                obtain ⟨ii, hi1, hz0, hz1, hz2⟩ := info_parts Tryd.infoN
                go_wp2_with (first | (at_lookup; refine wpList_lookOkG _ rfl _ _ 111 3 3 rfl lawIn Tryd.underlying111 (.int .i64 0) zeroInt mb _ F' rfl HMF.out (.int .i64 (b : Int)) (keyN b) rfl hk2 ?_; rw [hF1]; dsimp only [Option.getD, Option.isSome]) | (at_mapUpdate; refine wpList_storeG _ rfl _ _ _ 111 3 3 rfl lawIn Tryd.underlying111 mb E.length F' rfl HMF.out (by unfold maxLen; omega) (.int .i64 (b : Int)) (keyN b) rfl hk2 _ rfl ?_; intro wx hm5 hg5; have HM5 := Lib.hid hm5; have HS5 := Lib.hid (HPL.out wx hg5); clear hm5 hg5) | (at_builtin; refine wpList_pushC rfl _ _ 22 3 rfl ii _ 1 8 Tryd.underlying22 hi1 hz0 hz1 hz2 rfl (by decide) _ 2 _ E.length (natsV E) rfl HS5.out.2 [.int .i64 (b : Int)] rfl (one_of rfl) rfl (by omega) (by omega) ?_; intro g9 cp9 wy hr6 hs6; have HM6 := Lib.hid (HPU.out wx HM5.out _ HS5.out.1 wy _ hr6 hs6); obtain ⟨y0, y1⟩ := HLE.out wx _ wy _ HS5.out.1 hs6; obtain ⟨y2, hjo⟩ := HJO.out wy _ _ _ E.length HM6.out; have HJ6 := Lib.hid hjo; clear hr6 hs6 hjo) | (go_at_call 32; refine HJ6.out.mono ?_; rintro e w7 ⟨a8, n8, cp8, rfl, s1, s2, HM7⟩))
                go_roundg (m - (k + 1))
                case rel => exact ⟨k + 1, _, _, by omega, rfl, by go_num, by rw [hnx1.out, hnx2.out]; exact HM7⟩
                case measure => omega
              · unfold plN at hF1
                rw [if_neg hix] at hF1
                rw [if_neg hix] at hnx1
                obtain ⟨y2, hjo⟩ := HJO.out _ _ _ E (Au.idxN E b) HI2.out
                have HJ6 := Lib.hid hjo
                clear hix hjo hidl
                generalize Au.idxN E b = j at *
                go_wp2_with (first | (at_lookup; refine wpList_lookOkG _ rfl _ _ 111 3 3 rfl lawIn Tryd.underlying111 (.int .i64 0) zeroInt mb _ F' rfl HMF.out (.int .i64 (b : Int)) (keyN b) rfl hk2 ?_; rw [hF1]; dsimp only [Option.getD, Option.isSome]) | (go_at_call 32; refine HJ6.out.mono ?_; rintro e w7 ⟨a8, n8, cp8, rfl, s1, s2, HM7⟩))
                go_roundg (m - (k + 1))
                case rel => exact ⟨k + 1, _, _, by omega, rfl, by go_num, by rw [hnx1.out, hnx2.out]; exact HM7⟩
                case measure => omega
          · obtain rfl : k = m := by omega
            have hsl := hSL.out _ hqr.out
            rw [← Au.lp_leads] at hsl
            obtain ⟨m1, m2⟩ := hsl
            rw [hfr.out] at m2
            have htk : (Au.arcsOf d rep).take k = Au.arcsOf d rep := List.take_of_length_le (by rw [HM.out]; exact Nat.le_refl _)
            rw [htk, m1] at hNi
            have HN2 := Lib.hid m2
            clear m1 m2 htk
            generalize (Au.lp W C (W.met c0 i) (Au.arcsOf d rep)).2 = ar' at *
            have hcs := hNi.out.cs.cells
            obtain ⟨a9, cp9, rfl, _⟩ := hNi.out.cs.arcs.form
            obtain ⟨s0, s1, _⟩ := hcs
            obtain ⟨a6', cp6', rfl, _, _, _⟩ := hNi.out.tm.texts.form
            have HRO : Hid (RowC κ 4 wr 42 2 (.slice a7 i cp7) i (stsV L)) := by
              have h := hNi.out.ot.outs
              rw [hLd0.out] at h
              exact h
            have HCL := Lib.hid (fun vo' w' h1 h2 => hNi.out.close (vo' := vo') (w' := w') (by rw [hLd0.out]; exact h1) h2)
            obtain ⟨ii, hi1, hz0, hz1, hz2⟩ := info_parts Tryd.infoSt
            clear hNi
            go_wp2_with (at_builtin; refine wpList_pushC rfl _ _ 27 42 rfl ii _ 2 32 Tryd.underlying27 hi1 hz0 hz1 hz2 rfl (by decide) _ 4 _ i (stsV L) rfl HRO.out [.bool fin, .slice a9 _ cp9] rfl (one_of rfl) rfl (by omega) (by omega) ?_; intro g9 cp10 w6 hr6 hs6; have HM6 := Lib.hid (HCL.out _ w6 hr6 hs6); clear hr6 hs6)
            go_roundg (n + 1 - (i + 1))
            case rel => exact ⟨i + 1, _, _, by omega, by omega, hgl.out, by rw [← HN2.out]; exact HM6⟩
            case measure => omega
      · have hdn := HEND.out i (by omega)
        have HO := Lib.hid (hNo.out.ot.sto (B := w.heap.size) hNo.out.ap fun g _ hg => by
          apply Classical.byContradiction
          intro h
          have := hNo.out.bs.old g (by omega)
          omega)
        rw [hdn] at HO
        have HB := Lib.hid hNo.out.bs.below
        clear hNo ht3 hdn
        go_wp2_with fail
        go_ret
        exact ⟨_, rfl, HO.out, HB.out⟩
end Go.Proofs.YthhfmcikfdagiaaDoor

/-
  The program's least and Least.
-/
namespace Go.Proofs.YthhfmcikfdagiaaDoor
open Go.RowKit

theorem run_make_one (w : World) : (Instr.makeSlice 27 (.int .i64 1) (.int .i64 1)).run Tryd.prog w = .ok (.slice (some ⟨w.heap.size, 0, none⟩) 1 1) (w.alloc (.cells #[.bool false, .slice none 0 0] 42)) := by kernel_rfl

set_option maxRecDepth 100000 in
set_option maxHeartbeats 2000000 in
theorem leastP_any (F : Nat → Prop) (w : World) (u : Value) (d : List Au.St) (hf : Au.Fits d) (hu : StS F w u d) :
    Calls Tryd.prog 22 #[u] w fun e w' => ∃ v, e = .returned v ∧ StO w.heap.size w' v (Au.least d) ∧ Below w.heap.size w w' := by
  obtain ⟨n, hn⟩ : ∃ n, d.length = n := ⟨_, rfl⟩
  have hn0 : 0 < n := by have := hf.pos; omega
  have HU := Lib.hid hu
  have HBK := Lib.hid (backward_any F w u d n hn hf hu)
  have HAL : Hid (∀ W vb, Below w.heap.size w W → RowsS (fun g => w.heap.size ≤ g) W vb ((List.range n).map (Au.back d)) → _) := fun W vb hb hr => aliveOf_any (fun _ => True) W u vb d n hn hf ((HU.out.below hb).wide fun _ _ _ => trivial) (hr.wide fun _ _ _ => trivial)
  have HCL : Hid (∀ W vb ga, Below w.heap.size w W → RowsS (fun g => w.heap.size ≤ g) W vb ((List.range n).map (Au.back d)) → W.rowIs ga 4 n (fun j => .bool (Au.aliveB d j)) → ¬ Au.Dead (Au.ofL d) (some 0) → _) := fun W vb ga hb hr hal h0 => classesOf_any (fun _ => True) W u vb ga d n hn hf h0 ((HU.out.below hb).wide fun _ _ _ => trivial) (hr.wide fun _ _ _ => trivial) hal
  have HTD : Hid (∀ W p κ C O, Below w.heap.size w W → ¬ Au.Dead (Au.ofL d) (some 0) → ClsM n W p κ C → Au.HInv d O (fun _ => False) C → C.wq = [] → _) := fun W p κ C O hb h0 hC hI hq => told_any (fun _ => True) W u d n p κ C O hn hf h0 ((HU.out.below hb).wide fun _ _ _ => trivial) hC hI hq
  obtain ⟨ad, cd, rfl, hjunk⟩ := hu
  have HDD := Lib.hid (fun h => Au.least_dead hf h)
  clear hjunk hf hn
  go_enter Tryd.func22, Tryd.ntmps22
  go_wp2_with fail
  refine HBK.out.mono ?_
  rintro e w1 ⟨vb, rfl, hr1, hb1⟩
  have hln : ((List.range n).map (Au.back d)).length = n := by simp
  have hr2 := hr1
  obtain ⟨ab, cb, hvb, hjunk⟩ := hr1
  rw [hln] at hvb
  subst hvb
  have HR1 := Lib.hid hr2
  have HB1 := Lib.hid hb1
  clear hjunk hb1 hr2 hln
  have H2 := Lib.hid (HAL.out w1 _ HB1.out HR1.out)
  go_wp2_with fail
  refine H2.out.mono ?_
  rintro e w2 ⟨ga, rfl, hga, hal, hb2⟩
  have HB2 : Hid (Below w.heap.size w w2) := chain HB1.out hb2
  have HR2 := Lib.hid (HR1.out.below hb2)
  have HA2 := Lib.hid hal
  have r1 := hal.cell hn0
  clear hb2 hal H2
  cases ha : Au.aliveB d 0 with
  | false =>
    rw [ha] at r1
    have hdead : Au.Dead (Au.ofL d) (some 0) := by
      apply Classical.byContradiction
      intro h
      rw [(Au.aliveB_true d 0).2 h] at ha
      cases ha
    have HE := Lib.hid (HDD.out hdead)
    have hmk := run_make_one
    go_wp2_with fail
    go_ret
    refine ⟨_, rfl, ?_, HB2.out.alloc HB2.out.size _⟩
    rw [HE.out]
    refine ⟨[.slice none 0 0], some ⟨w2.heap.size, 0, none⟩, 1, rfl, rfl, Nat.le_refl _, by omega, fun _ => ⟨w2.heap.size, rfl, by simp, HB2.out.size, ⟨_, _, Go.Deep.blk_alloc_new _ _⟩, fun j hj hj2 => ?_⟩, fun j hj hj2 => ?_, fun j k hj hk hne => ?_⟩
    · obtain rfl : j = 0 := by simp at hj; omega
      exact ⟨cell_at w2 [.bool false, .slice none 0 0] 42 0 _ rfl, cell_at w2 [.bool false, .slice none 0 0] 42 1 _ rfl⟩
    · obtain rfl : j = 0 := by simp at hj; omega
      exact OwnA.nil0 _ _
    · simp at hj hk; omega
  | true =>
    rw [ha] at r1
    have h0 := (Au.aliveB_true d 0).1 ha
    have H3 := Lib.hid (HCL.out w2 _ ga HB2.out HR2.out HA2.out h0)
    clear HBK HAL HCL
    go_wp2_with fail
    refine H3.out.mono ?_
    rintro e w3 ⟨p, κ, C, O, rfl, hC, hq⟩
    have HB3 : Hid (Below w.heap.size w w3) := chain HB2.out hC.base.below
    have H4 := Lib.hid (HTD.out w3 p κ C O HB3.out h0 hC.cls hC.inv hq)
    clear hC hq HTD H3
    go_wp2_with fail
    refine H4.out.mono ?_
    rintro e w4 ⟨v, rfl, hv, hb4⟩
    have H5 := Lib.hid (And.intro hv hb4)
    clear hv hb4 H4
    go_wp2_with fail
    go_ret
    exact ⟨v, rfl, H5.out.1.lower HB3.out.size, chain HB3.out H5.out.2⟩

end Go.Proofs.YthhfmcikfdagiaaDoor

/-
  The program's Tight.
-/
namespace Go.Proofs.YthhfmcikfdagiaaDoor
open Go.RowKit
namespace Au
theorem sub_go_len {n : List Lo} (s : List Bool) (c : Nat) (t : List Bool) (h : (sub n).plain.go s c = some t) : t.length = n.length := by
  change (if _ then _ else _) = _ at h
  split at h
  · cases h
  · cases h
    exact over_length n s c
end Au
theorem encS_size (S : List Bool) : (encS S).size ≤ 9 * S.length := by
  unfold encS
  refine Nat.le_trans (encI_size_le _) (Nat.mul_le_mul_left _ ?_)
  rw [dl_length, List.length_map]
  unfold Au.idx
  have := List.length_filter_le (fun i => S[i]? == some true) (List.range S.length)
  rw [List.length_range] at this
  exact this
theorem LoS.wide {F G : Nat → Prop} {w : World} {v : Value} {n : List Au.Lo} (h : LoS F w v n) (hm : ∀ g, g < w.heap.size → F g → G g) : LoS G w v n := by
  obtain ⟨a, cap, h1, h2, h3, h4⟩ := h
  refine ⟨a, cap, h1, h2, h3, fun h0 => ?_⟩
  obtain ⟨g, o, h5, h6, h7, h8⟩ := h4 h0
  refine ⟨g, o, h5, h6, hm g h6 h7, fun j hj => ?_⟩
  obtain ⟨c1, ⟨va, c2, hA⟩, vf, c3, hN⟩ := h8 j hj
  exact ⟨c1, ⟨va, c2, hA.wide hm⟩, vf, c3, hN.wide hm⟩
/-- What holds while sets are met. -/
structure TInv (B p bi n : Nat) (u : Value) (d : List Au.Lo) (W : World) : Prop where
  prow : W.heap[p]? = some (.cells #[u, .slice (some ⟨bi, 0, none⟩) n n] 50 (0, 0))
  brow : W.rowIs bi 4 n (fun _ => .bool false)
  lo : LoS (fun g => g < B) W u d
theorem TInv.kept {B p bi n : Nat} {u : Value} {d : List Au.Lo} {W W' : World} (h : TInv B p bi n u d W) (hb : KeptF (fun b => b = bi) W W') (hp : p ≠ bi) (hB : B ≤ bi) (hr : W'.rowIs bi 4 n (fun _ => .bool false)) : TInv B p bi n u d W' :=
  ⟨(hb.block p (Array.getElem?_eq_some_iff.1 h.prow).1 hp).trans h.prow, hr, h.lo.keep hb.size fun g hg hl => hb.block g hl (by omega)⟩
theorem TInv.below {B p bi n : Nat} {u : Value} {d : List Au.Lo} {W W' : World} {C : Nat} (h : TInv B p bi n u d W) (hb : Below C W W') (hp : p < C) (hbi : bi < C) (hB : B ≤ C) : TInv B p bi n u d W' :=
  ⟨(hb.block p hp).trans h.prow, h.brow.of_block (hb.block bi hbi), h.lo.keep hb.size fun g hg _ => hb.block g (by omega)⟩
set_option maxRecDepth 100000 in
theorem meets_sets (B p bi n : Nat) (u : Value) (d : List Au.Lo) (w : World) (most : Int) (hdn : d.length = n) (hn : n ≤ 1048576) (hmay : Au.May d) (hbig : ∀ S, (Au.rowsOf d S).flatten.length ≤ 1099511627776) (hm : most ≤ 20000) (h : TInv B p bi n u d w) (hp : p ≠ bi) (hB : B ≤ bi) :
    Calls Tryd.prog 19 #[.string (encS (Au.first d)), .int .i64 most, .func (.func 21) #[.pointer (some ⟨p, 0, none⟩)] #[]] w (MeetP (Au.sub d).plain (Au.first d) most bi w) := by
  have hpl : p < w.heap.size := (Array.getElem?_eq_some_iff.1 h.prow).1
  refine meet_any (Au.sub d).plain encS (fun s => s.length = n) (TInv B p bi n u d) bi w 21 (.pointer (some ⟨p, 0, none⟩)) (Au.first d) most 20000 (fun s => decide_eq_true rfl) (fun s c t _ hg => (Au.sub_go_len s c t hg).trans hdn) ((Au.first_length d).trans hdn) (fun s t hs ht => ?_) (fun s hs => ?_) (by omega) (.inl hm) h.brow.lt h (fun W W' hW hb => hW.below hb hpl h.brow.lt (by have := h.brow.lt; omega)) (fun args w => rfl) (fun w2 s hw2 hi hs => ?_)
  · show decide (s = t) = decide (encS s = encS t)
    by_cases e : s = t
    · subst e; rw [decide_eq_true rfl, decide_eq_true rfl]
    · rw [decide_eq_false e, decide_eq_false fun e2 => e (encS_inj (hs.trans ht.symm) (by omega) e2)]
  · have := encS_size s
    rw [hs] at this
    omega
  · refine (look_any w2 p bi n u d s hdn hi.prow hi.brow (hi.lo.wide fun g _ hg => by omega) hmay hs (by omega) (hbig s)).mono ?_
    rintro e w' ⟨v, Z, rfl, hcut, hlds, hk, hr⟩
    refine ⟨v, Z.map fun g => (⟨g.lo, g.hi, Au.toSet d g.to⟩ : Au.Trail (List Bool)), rfl, Au.sub_leads hmay s Z hcut, ?_, hk, hi.kept hk hp hB hr⟩
    rw [List.map_map]
    exact hlds

set_option maxRecDepth 100000 in
set_option maxHeartbeats 2000000 in
theorem tightP_any (F : Nat → Prop) (w : World) (u : Value) (d : List Au.Lo) (most : Int) (hu : LoS F w u d) (hn : d.length ≤ 1048576) (hbig : ∀ S, (Au.rowsOf d S).flatten.length ≤ 1099511627776) (hm : most ≤ 20000) :
    Calls Tryd.prog 11 #[u, .int .i64 most] w fun e w' => ∃ v, e = .returned (.tuple #[v, .int .i64 (Au.tightE d most)]) ∧ StO w.heap.size w' v (Au.tightL d most) ∧ Below w.heap.size w w' := by
  have HIL := Lib.hid (isLoose_any F w u d hu)
  obtain ⟨n, hdn⟩ : ∃ n, d.length = n := ⟨_, rfl⟩
  have hu2 := hu
  obtain ⟨ad, cd, rfl, hjunk⟩ := hu
  rw [hdn] at hu2 HIL hn ⊢
  have HU := Lib.hid hu2
  have HDN := Lib.hid hdn
  have HBIG := Lib.hid hbig
  have HOB := Lib.hid (fun h => Au.tight_out_bad (d := d) (most := most) h)
  have HOO := Lib.hid (fun h => Au.tight_outs (d := d) (most := most) h)
  have hmk := run_make_row' (P := Tryd.prog) 48 4 (.bool false) 1 Tryd.underlying48 Tryd.infoBo rfl .i64 .i64 n (by omega) (by omega)
  clear hjunk hu2 hdn hbig
  go_enter Tryd.func11, Tryd.ntmps11
  go_wp2_with fail
  refine HIL.out.mono ?_
  rintro e w1 ⟨rfl, hb⟩
  have HB1 := Lib.hid hb
  clear hb HIL
  cases hmay : Au.may d with
  | false =>
    have HE := Lib.hid (HOB.out (by rw [hmay]; decide))
    go_wp2_with fail
    go_ret2
    refine ⟨.slice none 0 0, ?_, ?_, HB1.out⟩
    · rw [HE.out.1]; rfl
    · rw [HE.out.2]; exact StO.nil _ _
  | true =>
    have hM := (Au.may_true d).1 hmay
    have HE := Lib.hid (HOO.out hmay)
    have HMAY := Lib.hid hM
    have hn0 : 0 < n := by have := hM.pos; rw [HDN.out] at this; exact this
    have HT : Hid (TInv w.heap.size (w1.heap.size + 1) w1.heap.size n (.slice ad n cd) d (((w1.alloc (.cells (madeCells #[.bool false] n) 4)).alloc (.cells #[.slice ad n cd, .slice (some ⟨w1.heap.size, 0, none⟩) n n] 50)).alloc (.cells #[.int .i64 0] 3))) := by
      have r1 : (w1.alloc (.cells (madeCells #[.bool false] n) 4)).rowIs w1.heap.size 4 n (fun _ => .bool false) := World.rowIs_made w1 _ n _
      have hb3 : Below w.heap.size w (((w1.alloc (.cells (madeCells #[.bool false] n) 4)).alloc (.cells #[.slice ad n cd, .slice (some ⟨w1.heap.size, 0, none⟩) n n] 50)).alloc (.cells #[.int .i64 0] 3)) := by
        have := HB1.out.size
        exact ((HB1.out.alloc this _).alloc (by simp; omega) _).alloc (by simp; omega) _
      refine ⟨?_, (r1.alloc _).alloc _, (HU.out.wide (G := fun g => g < w.heap.size) fun g hg _ => hg).below hb3⟩
      have h1 := Go.Deep.blk_alloc_new (w1.alloc (.cells (madeCells #[.bool false] n) 4)) (.cells #[.slice ad n cd, .slice (some ⟨w1.heap.size, 0, none⟩) n n] 50)
      have h2 : (w1.alloc (.cells (madeCells #[.bool false] n) 4)).heap.size = w1.heap.size + 1 := by simp
      rw [h2] at h1
      exact (Go.Deep.blk_alloc_lt _ _ _ (by simp)).trans h1
    have hb3 : Hid (Below w.heap.size w (((w1.alloc (.cells (madeCells #[.bool false] n) 4)).alloc (.cells #[.slice ad n cd, .slice (some ⟨w1.heap.size, 0, none⟩) n n] 50)).alloc (.cells #[.int .i64 0] 3))) := by
      have := HB1.out.size
      exact ((HB1.out.alloc this _).alloc (by simp; omega) _).alloc (by simp; omega) _
    have hnum : Hid (NumS (fun g => g ≠ w1.heap.size) (((w1.alloc (.cells (madeCells #[.bool false] n) 4)).alloc (.cells #[.slice ad n cd, .slice (some ⟨w1.heap.size, 0, none⟩) n n] 50)).alloc (.cells #[.int .i64 0] 3)) (.slice (some ⟨w1.heap.size + 2, 0, none⟩) 1 1) ([0].map fun (i : Nat) => (i : Int))) := by
      refine ⟨some ⟨w1.heap.size + 2, 0, none⟩, 1, rfl, Nat.le_refl _, by omega, fun _ => ⟨w1.heap.size + 2, 0, rfl, by simp, by show _ ≠ _; omega, fun j hj => ?_⟩⟩
      obtain rfl : j = 0 := by simp at hj; omega
      have h2 : ((w1.alloc (.cells (madeCells #[.bool false] n) 4)).alloc (.cells #[.slice ad n cd, .slice (some ⟨w1.heap.size, 0, none⟩) n n] 50)).heap.size = w1.heap.size + 2 := by simp
      have := cell_at ((w1.alloc (.cells (madeCells #[.bool false] n) 4)).alloc (.cells #[.slice ad n cd, .slice (some ⟨w1.heap.size, 0, none⟩) n n] 50)) [.int .i64 0] 3 0 _ rfl
      rw [h2] at this
      exact this
    have HLE : Hid (w.heap.size ≤ w1.heap.size) := HB1.out.size
    clear hM HB1 hmay HU
    go_wp2_with fail
    generalize ((w1.alloc (.cells (madeCells #[.bool false] n) 4)).alloc (.cells #[.slice ad n cd, .slice (some ⟨w1.heap.size, 0, none⟩) n n] 50)).alloc (.cells #[.int .i64 0] 3) = w3 at *
    generalize w1.heap.size = bi at *
    have HTX := Lib.hid (textOf_any w3 (bi + 1) bi n (.slice ad n cd) d _ [0] HDN.out HT.out.prow HT.out.brow (HT.out.lo.wide fun g _ hg => by have := HLE.out; omega) hnum.out (fun x hx => by simp at hx; omega) (by simp) HMAY.out (by omega))
    have hfe : Au.spread d (Au.setOf n (fun j => j ∈ [0])) = Au.first d := by
      unfold Au.first
      rw [HDN.out]
      congr 2
      funext j
      simp
    rw [hfe] at HTX
    refine HTX.out.mono ?_
    rintro e w4 ⟨rfl, hk4, hr4⟩
    have HT4 := Lib.hid (HT.out.kept hk4 (by omega) HLE.out hr4)
    have HB4 : Hid (Below w.heap.size w w4) := KeptF.below hb3.out hk4 (fun k hk => by rw [hk]; exact HLE.out) hb3.out.size
    clear hk4 hr4 HTX hfe hnum hb3 HT
    have HME := Lib.hid (meets_sets w.heap.size (bi + 1) bi n (.slice ad n cd) d w4 most HDN.out hn HMAY.out HBIG.out hm HT4.out (by omega) HLE.out)
    have HLS : Hid (∀ i, Au.Few d most i → ∀ W v, StS (fun g => w4.heap.size ≤ g) W v ((Au.sub d).plain.out (Au.first d) i) → Calls Tryd.prog 22 #[v] W fun e w' => ∃ r, e = .returned r ∧ StO W.heap.size w' r (Au.tightL d most) ∧ Au.tightE d most = 0 ∧ Below W.heap.size W w') := fun i hf W v hv => by
      obtain ⟨r1, r2⟩ := Au.few_rows HMAY.out hf
      have r3 := Au.few_len hf
      refine (leastP_any _ W v _ ⟨r1, by omega, r2⟩ hv).mono ?_
      rintro e w' ⟨r, rfl, h1, h2⟩
      obtain ⟨e1, e2⟩ := HE.out.2 _ (Au.tight_some hf)
      exact ⟨r, rfl, by rw [e2]; exact h1, e1, h2⟩
    go_wp2_with fail
    refine HME.out.mono ?_
    rintro e w5 ⟨v, er, rfl, hk5, h5⟩
    have HB5 : Hid (Below w.heap.size w w5) := KeptF.below HB4.out hk5 (fun k hk => by rw [hk]; exact HLE.out) HB4.out.size
    clear hk5 HME
    rcases h5 with ⟨rfl, i, hdn, hle, hst⟩ | ⟨rfl, rfl, i, hgt⟩
    · have H6 := Lib.hid (HLS.out i ⟨hdn, hle⟩ w5 v hst)
      obtain ⟨av, cv, rfl, hjunk⟩ := hst
      clear hjunk hdn hle
      go_wp2_with fail
      refine H6.out.mono ?_
      rintro e w6 ⟨r, rfl, h1, h2, h3⟩
      have H7 := Lib.hid (And.intro h1 (And.intro h2 h3))
      clear h1 h2 h3
      go_wp2_with fail
      go_ret2
      exact ⟨r, by rw [H7.out.2.1]; rfl, H7.out.1.lower HB5.out.size, chain HB5.out H7.out.2.2⟩
    · obtain ⟨e1, e2⟩ := HE.out.1 (Au.tight_none i hgt)
      have E1 := Lib.hid e1
      have E2 := Lib.hid e2
      clear e1 e2
      go_wp2_with fail
      go_ret2
      exact ⟨.slice none 0 0, by rw [E1.out]; rfl, by rw [E2.out]; exact StO.nil _ _, HB5.out⟩
end Go.Proofs.YthhfmcikfdagiaaDoor

/-
  The automaton that each statement asks first, plainly.
-/
namespace Go.Proofs.YthhfmcikfdagiaaDoor
open Go.RowKit
namespace Au
theorem takesL_of {d : List St} (h : Fits d) (s : List UInt8) : takesL d s = (ofL d).acc (some 0) (s.map UInt8.toNat) := by simp [takesL, h]
end Au
end Go.Proofs.YthhfmcikfdagiaaDoor

/-
  What each statement asks first: awake.
-/
namespace Go.Proofs.YthhfmcikfdagiaaDoor
open Go.RowKit
namespace Au
theorem filter_sum {α : Type} (l : List α) (p : α → Bool) (f : α → Nat) : ((l.filter p).map f).sum ≤ (l.map f).sum := by
  induction l with
  | nil => exact Nat.le_refl _
  | cons y t ih =>
    by_cases h : p y = true
    · rw [List.filter_cons_of_pos h]
      simp only [List.map_cons, List.sum_cons]
      omega
    · rw [List.filter_cons_of_neg h]
      simp only [List.map_cons, List.sum_cons]
      omega
theorem range_rows (d : List Lo) : ∀ m, ((List.range m).map fun k => (rowOf d k).length).sum ≤ (d.map fun s => s.arcs.length).sum := by
  induction d with
  | nil =>
    intro m
    have : ((List.range m).map fun k => (rowOf [] k).length) = (List.range m).map fun _ => 0 := List.map_congr_left fun k _ => by simp [rowOf]
    rw [this]
    have h0 : ∀ l : List Nat, (l.map fun _ => 0).sum = 0 := fun l => by
      induction l with
      | nil => rfl
      | cons y t ih => simp only [List.map_cons, List.sum_cons, ih]
    rw [h0]
    exact Nat.zero_le _
  | cons s d ih =>
    intro m
    cases m with
    | zero => simp
    | succ m =>
      rw [List.range_succ_eq_map, List.map_cons, List.sum_cons, List.map_map]
      simp only [List.map_cons, List.sum_cons]
      have h1 : (rowOf (s :: d) 0).length = s.arcs.length := rfl
      have h2 : ((List.range m).map ((fun k => (rowOf (s :: d) k).length) ∘ Nat.succ)) = (List.range m).map fun k => (rowOf d k).length := List.map_congr_left fun k _ => by simp [rowOf]
      rw [h1, h2]
      have := ih m
      omega
theorem rows_sum (d : List Lo) (S : List Bool) : (rowsOf d S).flatten.length ≤ (d.map fun s => s.arcs.length).sum := by
  rw [List.length_flatten]
  unfold rowsOf idx
  rw [List.map_map]
  exact Nat.le_trans (filter_sum _ _ _) (range_rows d S.length)
end Au
end Go.Proofs.YthhfmcikfdagiaaDoor

/-
  Loose states of the call's own; slices.Clone of arcs and of numbers.
-/
namespace Go.Proofs.YthhfmcikfdagiaaDoor
open Go.RowKit

/-- The slice v is the call's own, from block B on, and holds these numbers. -/
def OwnZ (w : World) (B : Nat) (v : Value) (l : List Int) : Prop := w.ownsRow B 3 1 v l.length (l.map (Value.int .i64))
theorem OwnZ.kind {w : World} {B : Nat} {v : Value} {l : List Int} (h : OwnZ w B v l) : ∀ g, v.ownBlock = some g → B ≤ g ∧ g < w.heap.size ∧ ∃ c fz, w.heap[g]? = some (Obj.cells c 3 fz) := by
  intro g hv
  refine ⟨(World.ownsRow.lt h g hv).1, (World.ownsRow.lt h g hv).2, ?_⟩
  rcases h.2 with ⟨h1, _⟩ | ⟨g', cap, cur, h1, hg, hh, _⟩
  · rw [h1] at hv; cases hv
  · rw [h1] at hv
    obtain rfl : g' = g := by simpa [Value.ownBlock] using hv
    exact ⟨_, _, hh⟩
theorem OwnZ.nums {w : World} {B : Nat} {v : Value} {l : List Int} (h : OwnZ w B v l) (F : Nat → Prop) (hF : ∀ g, B ≤ g → F g) : NumS F w v l := by
  rcases h.2 with ⟨rfl, h0⟩ | ⟨g, cap, cur, rfl, hg, hh, hnc, hcp, hcs, htake⟩
  · exact ⟨none, 0, by rw [h0], by omega, by omega, fun h => by omega⟩
  · have hown : w.ownsRow B 3 1 (.slice (some ⟨g, 0, none⟩) l.length cap) l.length (l.map (Value.int .i64)) := h
    refine ⟨_, cap, rfl, hnc, by unfold maxLen at hcp; omega, fun h => ⟨g, 0, rfl, (hown.lt g rfl).2, hF g hg, fun j hj => ?_⟩⟩
    rw [Nat.zero_add, hown.cellAt j (by omega)]
    simp [hj]
theorem cloneZ_any (w : World) (v : Value) (l : List Int) (F : Nat → Prop) (h : NumS F w v l) (hl : l.length * 8 ≤ 140737488355328) :
    Calls Tryd.prog 64 #[v] w fun e w' => ∃ v', e = .returned v' ∧ OwnZ w' w.heap.size v' l ∧ Below w.heap.size w w' := by
  obtain ⟨a, cap, rfl, _, _, hc⟩ := h
  cases a with
  | none =>
    have h0 : l = [] := by
      rcases Nat.eq_zero_or_pos l.length with h0 | h0
      · exact List.length_eq_zero_iff.1 h0
      · obtain ⟨g, o, hh, _⟩ := hc h0
        cases hh
    subst h0
    refine (Tryd.slices_Clone_int_nil _ _ w).mono ?_
    rintro e w' ⟨rfl, rfl⟩
    exact ⟨_, rfl, World.ownsRow_nil _ _ _ _, Below.refl _ _⟩
  | some ad =>
    rcases Nat.eq_zero_or_pos l.length with h0 | h0
    · obtain rfl : l = [] := List.length_eq_zero_iff.1 h0
      refine (Tryd.slices_Clone_int_zero ad cap w).mono ?_
      rintro e w' ⟨v', rfl, h1, _, h2⟩
      exact ⟨v', rfl, h1, h2⟩
    · obtain ⟨g, o, hh, _, _, hcell⟩ := hc h0
      cases hh
      refine (Tryd.slices_Clone_int g o l.length cap l w (Nat.le_refl _) hl (fun j hj => by rw [hcell j hj]; simp [List.getD, hj])).mono ?_
      rintro e w' ⟨v', rfl, h1, _, h2⟩
      refine ⟨v', rfl, ?_, h2⟩
      rw [List.take_length] at h1
      exact h1
theorem arcs_flat (l : List Au.Arc) (j : Nat) (u : Value) (h : (arcsV l)[j]? = some u) : j / 3 < l.length ∧ u = (if j % 3 = 0 then .int .i64 (l.getD (j / 3) ⟨0, 0, 0⟩).lo else if j % 3 = 1 then .int .i64 (l.getD (j / 3) ⟨0, 0, 0⟩).hi else .int .i64 (l.getD (j / 3) ⟨0, 0, 0⟩).to) := by
  have hj : j < (arcsV l).length := (List.getElem?_eq_some_iff.1 h).1
  rw [arcsV_length] at hj
  have hk : j / 3 < l.length := by omega
  obtain ⟨a1, a2, a3⟩ := arcsV_at l (j / 3) hk
  have e : l.getD (j / 3) ⟨0, 0, 0⟩ = l[j / 3] := by simp [List.getD, hk]
  refine ⟨hk, ?_⟩
  rw [e]
  have hm : j % 3 = 0 ∨ j % 3 = 1 ∨ j % 3 = 2 := by omega
  rcases hm with hm | hm | hm
  · rw [show j = j / 3 * 3 by omega, a1] at h
    rw [if_pos hm]
    exact (Option.some.inj h).symm
  · rw [show j = j / 3 * 3 + 1 by omega, a2] at h
    rw [if_neg (by omega), if_pos hm]
    exact (Option.some.inj h).symm
  · rw [show j = j / 3 * 3 + 2 by omega, a3] at h
    rw [if_neg (by omega), if_neg (by omega)]
    exact (Option.some.inj h).symm
theorem arcs_news {w : World} {g o : Nat} {l : List Au.Arc} (hcell : ∀ j (_ : j < l.length), w.cell? ⟨g, o + j * 3, none⟩ = some (.int .i64 l[j].lo) ∧ w.cell? ⟨g, o + j * 3 + 1, none⟩ = some (.int .i64 l[j].hi) ∧ w.cell? ⟨g, o + j * 3 + 2, none⟩ = some (.int .i64 l[j].to)) :
    ∀ j u, (arcsV l)[j]? = some u → w.cell? ((⟨g, o, none⟩ : Addr).add j) = some u := by
  intro j u h
  obtain ⟨hk, hu⟩ := arcs_flat l j u h
  have e : l.getD (j / 3) ⟨0, 0, 0⟩ = l[j / 3] := by simp [List.getD, hk]
  rw [e] at hu
  obtain ⟨b1, b2, b3⟩ := hcell (j / 3) hk
  rw [Addr.add_lit]
  have hm : j % 3 = 0 ∨ j % 3 = 1 ∨ j % 3 = 2 := by omega
  rcases hm with hm | hm | hm
  · rw [if_pos hm] at hu
    rw [hu, ← b1]
    congr 2
    omega
  · rw [if_neg (by omega), if_pos hm] at hu
    rw [hu, ← b2]
    congr 2
    omega
  · rw [if_neg (by omega), if_neg (by omega)] at hu
    rw [hu, ← b3]
    congr 2
    omega
theorem arcs_one (l : List Au.Arc) : ∀ u ∈ arcsV l, u.oneCell' = true := by
  intro u hu
  obtain ⟨x, _, hx⟩ := List.mem_flatMap.1 hu
  simp only [List.mem_cons, List.not_mem_nil, or_false] at hx
  rcases hx with rfl | rfl | rfl <;> rfl

set_option maxHeartbeats 2000000 in
set_option maxRecDepth 100000 in
theorem cloneA_any (w : World) (v : Value) (l : List Au.Arc) (F : Nat → Prop) (h : ArcS F w v l) (hl : l.length * 24 ≤ 140737488355328) :
    Calls Tryd.prog 63 #[v] w fun e w' => ∃ v', e = .returned v' ∧ OwnA w' w.heap.size v' l ∧ Below w.heap.size w w' := by
  obtain ⟨a, cap, rfl, _, hcp, hc⟩ := h
  have q := fun (w : World) (a : Option Addr) (n c n' c' : Nat) => Lib.run_eql_slice_nil (P := Tryd.prog) w 40 63 a n c n' c' Tryd.underlying40
  cases a with
  | none =>
    have h0 : l = [] := by
      rcases Nat.eq_zero_or_pos l.length with h0 | h0
      · exact List.length_eq_zero_iff.1 h0
      · obtain ⟨g, o, hh, _⟩ := hc h0
        cases hh
    subst h0
    go_enter Tryd.func63, Tryd.ntmps63
    go_wp2_with fail
    go_ret
    exact ⟨_, rfl, World.ownsRow_nil _ _ _ _, Below.refl _ _⟩
  | some ad =>
    have hnews : ∀ j u, (arcsV l)[j]? = some u → w.cell? (ad.add j) = some u := by
      rcases Nat.eq_zero_or_pos l.length with h0 | h0
      · obtain rfl : l = [] := List.length_eq_zero_iff.1 h0
        intro j u hu
        simp [arcsV] at hu
      · obtain ⟨g, o, hh, _, _, hcell⟩ := hc h0
        cases hh
        exact arcs_news hcell
    have HNW := Lib.hid hnews
    clear hnews hc
    obtain ⟨ii, hi, hz0, hz1, hz2⟩ := info_parts Tryd.infoA
    obtain ⟨n, hn⟩ : ∃ n, n = l.length := ⟨_, rfl⟩
    have HN := Lib.hid hn
    rw [← hn] at hl ⊢
    clear hn
    go_enter Tryd.func63, Tryd.ntmps63
    go_wp2_with (at_builtin; refine wpList_append_own _ rfl _ _ 40 rfl w.heap.size 63 ii _ 3 24 Tryd.underlying40 hi hz0 hz1 hz2 rfl (by decide) _ _ _ rfl (World.ownsRow_made w #[] 0 (Nat.le_refl _) (Nat.zero_le _) rfl) ad n cap (arcsV l) rfl (by rw [arcsV_length, HN.out]) (fun j u hu => Lib.cell?_alloc_some _ (HNW.out j u hu)) (arcs_one l) (by unfold maxLen; omega) (by omega) (by simp) ?_; intro v' w1 hown hgrow hnil; have HOW := Lib.hid hown; have HGR := Lib.hid hgrow; clear hown hgrow hnil)
    go_wp2_with fail
    go_ret
    refine ⟨v', rfl, ?_, ((Below.refl _ w).alloc (Nat.le_refl _) _).grown HGR.out (by simp) (by intro k hk; have hk2 : some w.heap.size = some k := hk; injection hk2 with hk2; omega)⟩
    unfold OwnA
    rw [← HN.out]
    simpa using HOW.out
end Go.Proofs.YthhfmcikfdagiaaDoor

/-
  Loose states of the call's own in memory; what copyOf answers.
-/
namespace Go.Proofs.YthhfmcikfdagiaaDoor
open Go.RowKit

theorem Tryd.infoLo : (Tryd.prog.info? 58).map (fun i => (i.zero, i.size, i.bytes)) = some (some (.agg #[.bool false, .slice none 0 0, .slice none 0 0]), 3, 56) := by kernel_rfl
abbrev LoV := Bool × Value × Value
/-- Loose states as cells: is it final, the slices of its arcs and of its free ones. -/
def losV (l : List LoV) : List Value := l.flatMap fun x => [.bool x.1, x.2.1, x.2.2]
theorem losV_length (l : List LoV) : (losV l).length = l.length * 3 := by
  induction l with
  | nil => rfl
  | cons x t ih =>
    show (_ :: _ :: _ :: losV t).length = _
    simp only [List.length_cons, ih]
    omega
theorem losV_snoc (l : List LoV) (x : LoV) : losV l ++ [.bool x.1, x.2.1, x.2.2] = losV (l ++ [x]) := by simp [losV]
theorem losV_at (l : List LoV) : ∀ i (h : i < l.length), (losV l)[i * 3]? = some (.bool l[i].1) ∧ (losV l)[i * 3 + 1]? = some l[i].2.1 ∧ (losV l)[i * 3 + 2]? = some l[i].2.2 := by
  induction l with
  | nil => intro i h; cases h
  | cons x t ih =>
    intro i h
    cases i with
    | zero => exact ⟨rfl, rfl, rfl⟩
    | succ i =>
      simp only [List.length_cons, Nat.add_lt_add_iff_right] at h
      have e : (i + 1) * 3 = i * 3 + 1 + 1 + 1 := by omega
      rw [e]
      exact ih i h
def cell3 (x : LoV) (j : Nat) : Value := if j % 3 = 0 then .bool x.1 else if j % 3 = 1 then x.2.1 else x.2.2
/-- The cell j of a list of loose states, the zero ones behind them. -/
def losCell (l : List LoV) (j : Nat) : Value := cell3 (l.getD (j / 3) (false, .slice none 0 0, .slice none 0 0)) j
theorem losCell_snoc (l : List LoV) (x : LoV) (j : Nat) : (if j = l.length * 3 + 2 then x.2.2 else if j = l.length * 3 + 1 then x.2.1 else if j = l.length * 3 then .bool x.1 else losCell l j) = losCell (l ++ [x]) j := by
  unfold losCell cell3
  have hx : j / 3 = l.length → (l ++ [x]).getD (j / 3) (false, .slice none 0 0, .slice none 0 0) = x := fun e => by rw [e]; simp [List.getD]
  by_cases e2 : j = l.length * 3 + 2
  · rw [if_pos e2, hx (by omega), if_neg (by omega), if_neg (by omega)]
  rw [if_neg e2]
  by_cases e1 : j = l.length * 3 + 1
  · rw [if_pos e1, hx (by omega), if_neg (by omega), if_pos (by omega)]
  rw [if_neg e1]
  by_cases e0 : j = l.length * 3
  · rw [if_pos e0, hx (by omega), if_pos (by omega)]
  rw [if_neg e0]
  have hg : (l ++ [x]).getD (j / 3) (false, .slice none 0 0, .slice none 0 0) = l.getD (j / 3) (false, .slice none 0 0, .slice none 0 0) := by
    by_cases h : j / 3 < l.length
    · simp [List.getD, List.getElem?_append_left h]
    · have h2 : l.length < j / 3 := by omega
      simp [List.getD, List.getElem?_eq_none (show l.length ≤ j / 3 by omega), List.getElem?_eq_none (show (l ++ [x]).length ≤ j / 3 by simp; omega)]
  rw [hg]
theorem losCell_at (l : List LoV) (j : Nat) (h : j < (losV l).length) : (losV l)[j]? = some (losCell l j) := by
  rw [losV_length] at h
  have hk : j / 3 < l.length := by omega
  obtain ⟨a1, a2, a3⟩ := losV_at l (j / 3) hk
  have e : l.getD (j / 3) (false, .slice none 0 0, .slice none 0 0) = l[j / 3] := by simp [List.getD, hk]
  unfold losCell cell3
  rw [e]
  have hm : j % 3 = 0 ∨ j % 3 = 1 ∨ j % 3 = 2 := by omega
  rcases hm with hm | hm | hm
  · rw [if_pos hm, ← a1]; congr 1; omega
  · rw [if_neg (by omega), if_pos hm, ← a2]; congr 1; omega
  · rw [if_neg (by omega), if_neg (by omega), ← a3]; congr 1; omega
/-- Lists of arcs and of free states, each of the call's own, the arcs in blocks apart. -/
structure LoEach (w : World) (B : Nat) (vals : List LoV) (L : List Au.Lo) : Prop where
  len : vals.length = L.length
  each : ∀ j (h : j < vals.length) (h2 : j < L.length), vals[j].1 = L[j].fin ∧ OwnA w B vals[j].2.1 L[j].arcs ∧ OwnZ w B vals[j].2.2 L[j].free
  apart : ∀ i j (hi : i < vals.length) (hj : j < vals.length), i ≠ j → ∀ g, vals[i].2.1.ownBlock = some g → vals[j].2.1.ownBlock ≠ some g
theorem LoEach.nil (w : World) (B : Nat) : LoEach w B [] [] := ⟨rfl, fun j h => by simp at h, fun i j h => by simp at h⟩
theorem LoEach.keep {w w' : World} {B : Nat} {vals : List LoV} {L : List Au.Lo} (h : LoEach w B vals L) (e : ∀ (g : Nat) (c : Array Value) (t : TypeId) (fz : Nat × Nat), w.heap[g]? = some (Obj.cells c t fz) → (t = 63 ∨ t = 3) → B ≤ g → w'.heap[g]? = w.heap[g]?) : LoEach w' B vals L := by
  refine ⟨h.len, fun j a b => ?_, h.apart⟩
  obtain ⟨h1, h2, h3⟩ := h.each j a b
  refine ⟨h1, h2.keep fun k hk => ?_, ownsRow_keep h3 fun k hk => ?_⟩
  · obtain ⟨c, fz, hc⟩ := h2.kind k hk
    exact e k c _ fz hc (.inl rfl) (h2.lt k hk).1
  · obtain ⟨hb, _, c, fz, hc⟩ := h3.kind k hk
    exact e k c _ fz hc (.inr rfl) hb
theorem LoEach.below {w w' : World} {B : Nat} {vals : List LoV} {L : List Au.Lo} (h : LoEach w B vals L) (hb : Below w.heap.size w w') : LoEach w' B vals L := h.keep fun _ _ _ _ hg _ _ => hb.block _ (Array.getElem?_eq_some_iff.1 hg).1
/-- One more, its lists in new blocks. -/
theorem LoEach.snoc {w w' : World} {B : Nat} {vals : List LoV} {L : List Au.Lo} (h : LoEach w B vals L) (hb : Below w.heap.size w w') (hB : B ≤ w.heap.size) {va vf : Value} {s : Au.Lo} (ha : OwnA w' w.heap.size va s.arcs) (hf : OwnZ w' w.heap.size vf s.free) : LoEach w' B (vals ++ [(s.fin, va, vf)]) (L ++ [s]) := by
  have h' := h.below hb
  have hl := h.len
  refine ⟨by simp [hl], fun j a b => ?_, fun i j hi hj hne g hg hgj => ?_⟩
  · by_cases e : j < vals.length
    · rw [List.getElem_append_left e, List.getElem_append_left (by omega)]
      exact h'.each j e (by omega)
    · have e' : j = vals.length := by simp at a; omega
      subst e'
      have e2 : (L ++ [s])[vals.length] = s := by simp only [hl, List.getElem_append_right (Nat.le_refl _), Nat.sub_self, List.getElem_cons_zero]
      rw [e2]
      simp only [List.getElem_append_right (Nat.le_refl _), Nat.sub_self, List.getElem_cons_zero]
      exact ⟨trivial, ownsRow_base ha hB, ownsRow_base hf hB⟩
  · have old : ∀ k (hk : k < vals.length) g, vals[k].2.1.ownBlock = some g → g < w.heap.size := fun k hk g hg => ((h.each k hk (by omega)).2.1.lt g hg).2
    have new : ∀ g, va.ownBlock = some g → w.heap.size ≤ g := fun g hg => (ha.lt g hg).1
    by_cases e1 : i < vals.length
    · rw [List.getElem_append_left e1] at hg
      by_cases e2 : j < vals.length
      · rw [List.getElem_append_left e2] at hgj
        exact h.apart i j e1 e2 hne g hg hgj
      · have e' : j = vals.length := by simp at hj; omega
        subst e'
        simp at hgj
        have := old i e1 g hg
        have := new g hgj
        omega
    · have e' : i = vals.length := by simp at hi; omega
      subst e'
      simp at hg
      have e2 : j < vals.length := by simp at hj; omega
      rw [List.getElem_append_left e2] at hgj
      have := old j e2 g hgj
      have := new g hg
      omega
/-- Loose states of the call's own. -/
structure LoO (w : World) (B : Nat) (v : Value) (vals : List LoV) (L : List Au.Lo) : Prop where
  own : w.ownsRow B 58 3 v L.length (losV vals)
  each : LoEach w B vals L
theorem own_of_rowIs {w : World} {B G n : Nat} {vals : List LoV} (h : w.rowIs G 58 (n * 3) (losCell vals)) (hl : vals.length = n) (hB : B ≤ G) (hn : n ≤ 1000) : w.ownsRow B 58 3 (.slice (some ⟨G, 0, none⟩) n n) n (losV vals) := by
  obtain ⟨c, h1, h2, h3⟩ := h
  refine ⟨by rw [losV_length, hl], .inr ⟨G, n, c, rfl, hB, h1, Nat.le_refl _, by unfold maxLen; omega, h2, ?_⟩⟩
  apply List.ext_getElem?
  intro j
  by_cases hj : j < n * 3
  · rw [List.getElem?_take, if_pos hj, Array.getElem?_toList, h3 j hj, losCell_at vals j (by rw [losV_length, hl]; exact hj)]
  · rw [List.getElem?_eq_none (by rw [List.length_take]; omega), List.getElem?_eq_none (by rw [losV_length, hl]; omega)]
theorem makeLo (n : Nat) (hn : n ≤ 1000) (w : World) :
    (Instr.makeSlice 36 (.int .i64 (n : Int)) (.int .i64 (n : Int))).run Tryd.prog w = .ok (.slice (some ⟨w.heap.size, 0, none⟩) n n) (w.alloc (.cells (madeCells #[.bool false, .slice none 0 0, .slice none 0 0] (n * 3)) 58)) := by
  obtain ⟨ii, hi, hz0, hz1, hz2⟩ := info_parts Tryd.infoLo
  have h := run_make (P := Tryd.prog) w 36 58 ii _ Tryd.underlying36 hi hz0 .i64 .i64 (n : Int) (n : Int) (by omega) (by omega) (by rw [hz2]; omega) (by omega)
  rw [hz1, Int.toNat_natCast] at h
  exact h
theorem madeLo (w : World) (n : Nat) : (w.alloc (.cells (madeCells #[.bool false, .slice none 0 0, .slice none 0 0] (n * 3)) 58)).rowIs w.heap.size 58 (n * 3) (losCell []) := by
  refine ⟨_, Go.Deep.blk_alloc_new _ _, by rw [size_madeCells], fun i hi => ?_⟩
  have : i % 3 = 0 ∨ i % 3 = 1 ∨ i % 3 = 2 := by omega
  rcases this with h | h | h <;> simp [madeCells, losCell, cell3, h, hi]
end Go.Proofs.YthhfmcikfdagiaaDoor

/-
  What copyOf answers.
-/
namespace Go.Proofs.YthhfmcikfdagiaaDoor
open Go.RowKit

set_option maxRecDepth 100000 in
set_option maxHeartbeats 2000000 in
theorem copyOf_any (F : Nat → Prop) (w : World) (v : Value) (L : List Au.Lo) (h : LoS F w v L) (hL : L.length ≤ 1000) (hs : ∀ s ∈ L, s.arcs.length * 24 ≤ 140737488355328 ∧ s.free.length * 8 ≤ 140737488355328) :
    Calls Tryd.prog 44 #[v] w fun e w' => ∃ v' vals, e = .returned v' ∧ LoO w' w.heap.size v' vals L ∧ Below w.heap.size w w' := by
  obtain ⟨a, cap, rfl, _, hcp, hc⟩ := h
  have HC := Lib.hid hc
  have HS := Lib.hid hs
  obtain ⟨n, hn⟩ : ∃ n, n = L.length := ⟨_, rfl⟩
  have HN := Lib.hid hn
  rw [← hn] at hL ⊢
  have hmk := makeLo n hL
  clear hc hs hn
  go_enter Tryd.func44, Tryd.ntmps44
  go_wp2_with fail
  have HR0 : Hid ((w.alloc (.cells (madeCells #[.bool false, .slice none 0 0, .slice none 0 0] (n * 3)) 58)).rowIs w.heap.size 58 (n * 3) (losCell [])) := madeLo w n
  have HB0 : Hid (Below w.heap.size w (w.alloc (.cells (madeCells #[.bool false, .slice none 0 0, .slice none 0 0] (n * 3)) 58))) := (Below.refl _ _).alloc (Nat.le_refl _) _
  obtain ⟨G, hG⟩ : ∃ G, G = w.heap.size := ⟨_, rfl⟩
  have HG : Hid (G = w.heap.size) := hG
  have HGB : Hid (w.heap.size ≤ G) := Nat.le_of_eq hG.symm
  rw [← hG] at HR0
  rw [show (Value.slice (some ⟨w.heap.size, 0, none⟩) n n) = Value.slice (some ⟨G, 0, none⟩) n n by rw [hG]]
  clear hmk hG
  generalize w.alloc (.cells (madeCells #[.bool false, .slice none 0 0, .slice none 0 0] (n * 3)) 58) = w1 at *
  go_loopg [11] n (fun g i wx => ∃ (k : Nat) (vals : List LoV), k ≤ n ∧ g = n - k ∧ i = .int .i64 k ∧ Hid (wx.rowIs G 58 (n * 3) (losCell vals)) ∧ Hid (LoEach wx w.heap.size vals (L.take k)) ∧ Hid (Below w.heap.size w wx))
  case atStart => exact ⟨0, [], Nat.zero_le _, rfl, rfl, HR0, LoEach.nil _ _, HB0⟩
  case round =>
    obtain ⟨k, vals, hk, rfl, rfl, hrow, heach, hbel⟩ := hrel
    by_cases hkn : k < n
    · have i1 : (k : Int) < (n : Int) := by omega
      have hkL : k < L.length := by rw [← HN.out]; exact hkn
      obtain ⟨gs, o, rfl, hgs, _, hcell⟩ := HC.out (by omega)
      obtain ⟨t1, ⟨va, t2, t3⟩, vf, t4, t5⟩ := hcell k hkL
      have hb := hbel.out
      have c1 : wr.cell? ⟨gs, o + k * 3, none⟩ = some (.bool L[k].fin) := (hb.cell (p := ⟨gs, o + k * 3, none⟩) hgs).trans t1
      have c2 : wr.cell? ⟨gs, o + k * 3 + 1, none⟩ = some va := (hb.cell (p := ⟨gs, o + k * 3 + 1, none⟩) hgs).trans t2
      have c3 : wr.cell? ⟨gs, o + k * 3 + 2, none⟩ = some vf := (hb.cell (p := ⟨gs, o + k * 3 + 2, none⟩) hgs).trans t4
      have HS1 := Lib.hid (HS.out L[k] (List.getElem_mem hkL))
      have hvl : vals.length = k := by
        have := heach.out.len
        rw [List.length_take] at this
        omega
      have HVL := Lib.hid hvl
      have HTK : Hid (L.take (k + 1) = L.take k ++ [L[k]]) := List.take_succ_eq_append_getElem hkL
      have HA3 : Hid (ArcS F wr va L[k].arcs) := t3.keep hb.size fun g _ hg => hb.block g hg
      have HF3 : Hid (NumS F wr vf L[k].free) := t5.keep hb.size fun g _ hg => hb.block g hg
      clear hcell t1 t2 t3 t4 t5 hvl hb
      generalize L[k] = s at *
      obtain ⟨fin, arcs, free⟩ := s
      dsimp only at *
      obtain ⟨aa, ca, hva⟩ : ∃ aa ca, va = .slice aa arcs.length ca := by
        obtain ⟨aa, ca, h1, _⟩ := HA3.out
        exact ⟨aa, ca, h1⟩
      obtain ⟨af, cf, hvf⟩ : ∃ af cf, vf = .slice af free.length cf := by
        obtain ⟨af, cf, h1, _⟩ := HF3.out
        exact ⟨af, cf, h1⟩
      subst hva hvf
      obtain ⟨na, hna⟩ : ∃ na, na = arcs.length := ⟨_, rfl⟩
      obtain ⟨nf, hnf⟩ : ∃ nf, nf = free.length := ⟨_, rfl⟩
      rw [← hna] at c2 HA3
      rw [← hnf] at c3 HF3
      clear hna hnf
      have HAL : Hid (∀ o, LoEach (wr.alloc o) w.heap.size vals (L.take k)) := fun o => heach.out.below ((Below.refl _ _).alloc (Nat.le_refl _) _)
      have HNW : Hid (wr.heap.size < (wr.alloc (.cells #[.bool fin, .slice aa na ca, .slice af nf cf] 58)).heap.size) := by show _ < _; simp
      have HBK : Hid ((wr.alloc (.cells #[.bool fin, .slice aa na ca, .slice af nf cf] 58)).heap[wr.heap.size]? = some (.cells #[.bool fin, .slice aa na ca, .slice af nf cf] 58 (0, 0))) := Go.Deep.blk_alloc_new _ _
      have HBL : Hid (Below w.heap.size w (wr.alloc (.cells #[.bool fin, .slice aa na ca, .slice af nf cf] 58))) := hbel.out.alloc hbel.out.size _
      have HRW : Hid ((wr.alloc (.cells #[.bool fin, .slice aa na ca, .slice af nf cf] 58)).rowIs G 58 (n * 3) (losCell vals)) := hrow.out.alloc _
      have HE5 := Lib.hid (HAL.out (.cells #[.bool fin, .slice aa na ca, .slice af nf cf] 58))
      have HA5 : Hid (ArcS F (wr.alloc (.cells #[.bool fin, .slice aa na ca, .slice af nf cf] 58)) (.slice aa na ca) arcs) := HA3.out.keep (by simp) fun g _ hg => Go.Deep.blk_alloc_lt _ _ _ hg
      have HF5 : Hid (NumS F (wr.alloc (.cells #[.bool fin, .slice aa na ca, .slice af nf cf] 58)) (.slice af nf cf) free) := HF3.out.keep (by simp) fun g _ hg => Go.Deep.blk_alloc_lt _ _ _ hg
      have HGL : Hid (G < wr.heap.size) := hrow.out.lt
      go_wp2_with fail
      clear c1 c2 c3 HAL HA3 HF3
      obtain ⟨b5, hb5⟩ : ∃ b, b = wr.heap.size := ⟨_, rfl⟩
      rw [← hb5] at HNW HBK HGL ⊢
      clear hb5
      generalize wr.alloc (.cells #[.bool fin, .slice aa na ca, .slice af nf cf] 58) = w5 at *
      have HCA : Hid (∀ W, Below w5.heap.size w5 W → Calls Tryd.prog 63 #[.slice aa na ca] W fun e w' => ∃ a6 m6 c6, e = .returned (.slice a6 m6 c6) ∧ OwnA w' W.heap.size (.slice a6 m6 c6) arcs ∧ Below W.heap.size W w') := fun W hb => (cloneA_any W _ arcs F (HA5.out.keep hb.size fun g _ hg => hb.block g hg) HS1.out.1).mono fun e w' ⟨v', h1, h2, h3⟩ => by
        obtain ⟨a6, c6, h4, _⟩ := h2.opened
        subst h4
        exact ⟨a6, _, c6, h1, h2, h3⟩
      have HCZ : Hid (∀ W, Below w5.heap.size w5 W → Calls Tryd.prog 64 #[.slice af nf cf] W fun e w' => ∃ a7 m7 c7, e = .returned (.slice a7 m7 c7) ∧ OwnZ w' W.heap.size (.slice a7 m7 c7) free ∧ Below W.heap.size W w') := fun W hb => (cloneZ_any W _ free F (HF5.out.keep hb.size fun g _ hg => hb.block g hg) HS1.out.2).mono fun e w' ⟨v', h1, h2, h3⟩ => by
        obtain ⟨a7, c7, h4, _⟩ := h2.nums (fun _ => True) fun _ _ => trivial
        subst h4
        exact ⟨a7, _, c7, h1, h2, h3⟩
      have hK0 : ∀ W : World, W.heap[b5]? = w5.heap[b5]? → W.cell? ⟨b5, 0, none⟩ = some (.bool fin) ∧ W.cell? ⟨b5, 1, none⟩ = some (.slice aa na ca) ∧ W.cell? ⟨b5, 2, none⟩ = some (.slice af nf cf) := fun W e => by
        rw [HBK.out] at e
        exact ⟨by simp [World.cell?, e], by simp [World.cell?, e], by simp [World.cell?, e]⟩
      have HK : Hid (∀ W, Below w5.heap.size w5 W → W.cell? ⟨b5, 0, none⟩ = some (.bool fin) ∧ W.cell? ⟨b5, 1, none⟩ = some (.slice aa na ca) ∧ W.cell? ⟨b5, 2, none⟩ = some (.slice af nf cf)) := fun W hb => hK0 W (hb.block b5 HNW.out)
      have HKS : Hid (∀ W u1 u2 u3, Below w5.heap.size w5 W → (((W.setCell ⟨G, k * 3, none⟩ u1).setCell ⟨G, k * 3 + 1, none⟩ u2).setCell ⟨G, k * 3 + 2, none⟩ u3).cell? ⟨b5, 0, none⟩ = some (.bool fin) ∧ (((W.setCell ⟨G, k * 3, none⟩ u1).setCell ⟨G, k * 3 + 1, none⟩ u2).setCell ⟨G, k * 3 + 2, none⟩ u3).cell? ⟨b5, 1, none⟩ = some (.slice aa na ca) ∧ (((W.setCell ⟨G, k * 3, none⟩ u1).setCell ⟨G, k * 3 + 1, none⟩ u2).setCell ⟨G, k * 3 + 2, none⟩ u3).cell? ⟨b5, 2, none⟩ = some (.slice af nf cf)) := fun W u1 u2 u3 hb => hK0 _ (by
        have hne : b5 ≠ G := by have := HGL.out; omega
        rw [Go.Deep.blk_setCell_other _ _ _ _ hne, Go.Deep.blk_setCell_other _ _ _ _ hne, Go.Deep.blk_setCell_other _ _ _ _ hne]
        exact hb.block b5 HNW.out)
      have HRX : Hid (∀ W, Below w5.heap.size w5 W → W.rowIs G 58 (n * 3) (losCell vals)) := fun W hb => HRW.out.of_block (hb.block G HRW.out.lt)
      have hq0 : Below w5.heap.size w5 w5.drew := (Below.refl _ _).drew
      clear hK0
      go_region_held3 (fun W => W.cell? ⟨b5, 0, none⟩ = some (.bool fin) ∧ W.cell? ⟨b5, 1, none⟩ = some (.slice aa na ca) ∧ W.cell? ⟨b5, 2, none⟩ = some (.slice af nf cf)) (first | exact HK.out _ (by assumption) | exact HKS.out _ _ _ _ (by assumption)) (first | (go_at_call 63; refine (HCA.out _ (by assumption)).mono ?_; rintro e w6 ⟨a6, m6, c6, rfl, ho6, hb6⟩; have HO6 := Lib.hid ho6; have HB6 := Lib.hid hb6; have hq6 : Below w5.heap.size w5 w6 := hq0.trans hb6; clear ho6 hb6) | (go_at_call 64; refine (HCZ.out _ (by assumption)).mono ?_; rintro e w7 ⟨a7, m7, c7, rfl, ho7, hb7⟩; have HO7 := Lib.hid ho7; have HB7 := Lib.hid hb7; have hq7 : Below w5.heap.size w5 w7 := hq6.trans (hb7.mono hq6.size); have HR7 := Lib.hid (HRX.out w7 hq7); have y1 := HR7.out.cell (i := k * 3) (by omega); have y2 := HR7.out.cell (i := k * 3 + 1) (by omega); have y3 := HR7.out.cell (i := k * 3 + 2) (by omega); have z1 := HR7.out.frozen (k * 3); have z2 := HR7.out.frozen (k * 3 + 1); have z3 := HR7.out.frozen (k * 3 + 2); clear ho7 hb7))
      clear y1 y2 y3 z1 z2 z3
      have HA7 : Hid (OwnA w7 w5.heap.size (.slice a6 m6 c6) arcs) := by
        have h6 : OwnA w6 w5.heap.size (.slice a6 m6 c6) arcs := HO6.out
        exact h6.keep fun g hg => HB7.out.block g (h6.lt g hg).2
      have HZ7 : Hid (OwnZ w7 w5.heap.size (.slice a7 m7 c7) free) := ownsRow_base HO7.out (by have := hq6.size; exact this)
      have HE7 : Hid (LoEach w7 w.heap.size (vals ++ [(fin, .slice a6 m6 c6, .slice a7 m7 c7)]) (L.take (k + 1))) := by
        show LoEach _ _ _ _
        rw [HTK.out]
        exact HE5.out.snoc hq7 HBL.out.size (s := ⟨fin, arcs, free⟩) HA7.out HZ7.out
      have far : ∀ g, g ≠ G → (((w7.setCell ⟨G, k * 3, none⟩ (.bool fin)).setCell ⟨G, k * 3 + 1, none⟩ (.slice a6 m6 c6)).setCell ⟨G, k * 3 + 2, none⟩ (.slice a7 m7 c7)).heap[g]? = w7.heap[g]? := fun g hg => by
        rw [Go.Deep.blk_setCell_other _ _ _ _ hg, Go.Deep.blk_setCell_other _ _ _ _ hg, Go.Deep.blk_setCell_other _ _ _ _ hg]
      have R8 : Hid ((((w7.setCell ⟨G, k * 3, none⟩ (.bool fin)).setCell ⟨G, k * 3 + 1, none⟩ (.slice a6 m6 c6)).setCell ⟨G, k * 3 + 2, none⟩ (.slice a7 m7 c7)).rowIs G 58 (n * 3) (losCell (vals ++ [(fin, .slice a6 m6 c6, .slice a7 m7 c7)]))) :=
        (((HR7.out.set (k * 3) (.bool fin)).set (k * 3 + 1) (.slice a6 m6 c6)).set (k * 3 + 2) (.slice a7 m7 c7)).congr fun j _ => by
          have := losCell_snoc vals (fin, .slice a6 m6 c6, .slice a7 m7 c7) j
          rw [HVL.out] at this
          exact this
      have E8 : Hid (LoEach (((w7.setCell ⟨G, k * 3, none⟩ (.bool fin)).setCell ⟨G, k * 3 + 1, none⟩ (.slice a6 m6 c6)).setCell ⟨G, k * 3 + 2, none⟩ (.slice a7 m7 c7)) w.heap.size (vals ++ [(fin, .slice a6 m6 c6, .slice a7 m7 c7)]) (L.take (k + 1))) :=
        HE7.out.keep fun g c t fz hg ht _ => far g (by
          rintro rfl
          obtain ⟨c', hc', _⟩ := id HR7.out
          rw [hg] at hc'
          injection hc' with hc'
          injection hc' with _ h2
          rcases ht with rfl | rfl <;> exact absurd h2 (by decide))
      have B8 : Hid (Below w.heap.size w (((w7.setCell ⟨G, k * 3, none⟩ (.bool fin)).setCell ⟨G, k * 3 + 1, none⟩ (.slice a6 m6 c6)).setCell ⟨G, k * 3 + 2, none⟩ (.slice a7 m7 c7))) :=
        (((HBL.out.trans (hq7.mono HBL.out.size)).setCell HGB.out _).setCell HGB.out _).setCell HGB.out _
      clear far hq0 hq6 hq7
      generalize (((w7.setCell ⟨G, k * 3, none⟩ (.bool fin)).setCell ⟨G, k * 3 + 1, none⟩ (.slice a6 m6 c6)).setCell ⟨G, k * 3 + 2, none⟩ (.slice a7 m7 c7)) = w8 at *
      go_wp2_with fail
      go_roundg (n - (k + 1))
      case rel => exact ⟨k + 1, _, by omega, rfl, by go_num, R8, E8, B8⟩
      case measure => omega
    · obtain rfl : k = n := by omega
      have e : L.take k = L := List.take_of_length_le (by rw [← HN.out]; exact Nat.le_refl _)
      rw [e] at heach
      clear e
      go_wp2_with fail
      go_ret
      refine ⟨_, vals, rfl, ⟨?_, heach.out⟩, hbel.out⟩
      rw [← HN.out]
      exact own_of_rowIs hrow.out (by rw [heach.out.len, HN.out]) HGB.out hL
end Go.Proofs.YthhfmcikfdagiaaDoor

/-
  What Encode answers, the program's and the document's own: the bytes of all characters, or the refusal.
-/
namespace Go.Proofs.YthhfmcikfdagiaaDoor
open Go.RowKit

namespace Ut
/-- The bytes of characters, where all are. -/
def encS (l : List Int) : List UInt8 := if allW l = true then enc l else []
def encE (l : List Int) : Int := if allW l = true then 0 else 1
theorem encS_yes {l : List Int} (h : allW l = true) : encS l = enc l := if_pos h
theorem encE_yes {l : List Int} (h : allW l = true) : encE l = 0 := if_pos h
theorem encS_no {l : List Int} (h : allW l = false) : encS l = [] := if_neg (by rw [h]; exact Bool.false_ne_true)
theorem encE_no {l : List Int} (h : allW l = false) : encE l = 1 := if_neg (by rw [h]; exact Bool.false_ne_true)
theorem allW_step {l : List Int} {k : Nat} (h : k < l.length) : allW (l.take (k + 1)) = (allW (l.take k) && whole l[k]) := by
  rw [List.take_succ_eq_append_getElem h, allW_append]
  simp [allW]
theorem enc_step {l : List Int} {k : Nat} (h : k < l.length) : enc (l.take (k + 1)) = enc (l.take k) ++ Lib.encodeRune l[k] := by
  rw [List.take_succ_eq_append_getElem h, enc_snoc]
theorem allW_not {l : List Int} {k : Nat} (h : k < l.length) (hk : whole l[k] = false) : allW l = false := by
  rw [← Bool.not_eq_true, allW_iff]
  intro ha
  have := ha l[k] (List.getElem_mem h)
  rw [hk] at this
  cases this
theorem bytes_rune (c : Int) : bytesV5 (Lib.encodeRune c) = Lib.runeCells c := by
  unfold bytesV5 Lib.encodeRune Lib.runeCells
  rw [List.map_map]
  refine List.map_congr_left fun x hx => ?_
  have hb := Lib.encodeRuneZ_byte c x hx
  show Value.int .u8 (((x.toNat.toUInt8).toNat : Nat) : Int) = _
  rw [byteI x hb.1 hb.2]
end Ut

theorem ret_si {s1 s2 : ByteArray} {a b : Int} (h1 : s1 = s2) (h2 : a = b) : Ending.returned (.tuple #[.string s1, .int .i64 a]) = Ending.returned (.tuple #[.string s2, .int .i64 b]) := by rw [h1, h2]
theorem madeB_own (w : World) (B n : Nat) (hB : B ≤ w.heap.size) (hn : n ≤ 1099511627776 * 16) :
    OwnB5 (w.alloc (.cells (madeCells #[.int .u8 0] n) 5)) B (.slice (some ⟨w.heap.size, 0, none⟩) 0 n) [] :=
  World.ownsRow_made w (madeCells #[.int .u8 0] n) n hB (by unfold maxLen; omega) (by rw [size_madeCells, Nat.mul_one])
theorem makeB (n : Nat) (hn : n ≤ 17592186044416) (w : World) :
    (Instr.makeSlice 99 (.int .i64 0) (.int .i64 (n : Int))).run Tryd.prog w = .ok (.slice (some ⟨w.heap.size, 0, none⟩) 0 n) (w.alloc (.cells (madeCells #[.int .u8 0] n) 5)) := by
  obtain ⟨ii, hi, hz0, hz1, hz2⟩ := info_parts Tryd.infoB5
  have h := run_make (P := Tryd.prog) w 99 5 ii (.int .u8 0) Tryd.underlying99 hi hz0 .i64 .i64 0 (n : Int) (by omega) (by omega) (by rw [hz2]; omega) (by omega)
  rw [hz1, Int.toNat_natCast, Nat.mul_one] at h
  exact h

/-- AppendRune, onto bytes of the call's own. -/
theorem appendRune_any (w : World) (B : Nat) (hB : B ≤ w.heap.size) (v : Value) (l : List UInt8) (c : Int) (h : OwnB5 w B v l) (hc : 0 ≤ c ∧ c ≤ 1114111) (hl : l.length + 4 ≤ 140737488355328) :
    Calls Tryd.prog 96 #[v, .int .i32 c] w fun e w' => ∃ v', e = .returned v' ∧ OwnB5 w' B v' (l ++ Lib.encodeRune c) ∧ Below B w w' := by
  have hown : w.ownsRow B 5 1 v l.length (bytesV5 l) := h
  refine (Tryd.utf8_AppendRune_plain B v l.length (bytesV5 l) c (by omega) (by omega) w hown hl hB).mono ?_
  rintro e w' ⟨v', rfl, h1, o, h2⟩
  refine ⟨v', rfl, ?_, ((Below.refl B w).alloc hB o).grown h2 (by simp; omega) (fun j hj => (hown.lt j hj).1)⟩
  have hr : (Lib.runeCells c).length = (Lib.encodeRune c).length := by rw [← Ut.bytes_rune, bytesV_length5]
  unfold OwnB5
  rw [List.length_append, ← hr]
  have e : bytesV5 (l ++ Lib.encodeRune c) = bytesV5 l ++ Lib.runeCells c := by rw [← Ut.bytes_rune]; simp [bytesV5]
  rw [e]
  exact h1

/-- What Encode answers. -/
def EncPost (w : World) (l : List Int) (e : Ending) (w' : World) : Prop :=
  e = .returned (.tuple #[.string ⟨(Ut.encS l).toArray⟩, .int .i64 (Ut.encE l)]) ∧ Below w.heap.size w w'

set_option maxRecDepth 100000 in
set_option maxHeartbeats 2000000 in
theorem encode_any (w : World) (v : Value) (xs : List Int) (hv : IntS w v xs) (hx : xs.length ≤ 17592186044416) :
    Calls Tryd.prog 86 #[v] w (EncPost w xs) := by
  obtain ⟨a, cap, rfl, _, _, hv⟩ := hv
  have HV := Lib.hid hv
  clear hv
  obtain ⟨n, hn⟩ : ∃ n, n = xs.length := ⟨_, rfl⟩
  have HN := Lib.hid hn
  rw [← hn] at hx ⊢
  clear hn
  have hmk := makeB n hx
  go_enter Tryd.func86, Tryd.ntmps86
  go_wp2_with fail
  have HO : Hid (OwnB5 (w.alloc (.cells (madeCells #[.int .u8 0] n) 5)) w.heap.size (.slice (some ⟨w.heap.size, 0, none⟩) 0 n) []) := madeB_own w w.heap.size n (Nat.le_refl _) (by omega)
  have HB : Hid (Below w.heap.size w (w.alloc (.cells (madeCells #[.int .u8 0] n) 5))) := (Below.refl _ _).alloc (Nat.le_refl _) _
  generalize w.alloc (.cells (madeCells #[.int .u8 0] n) 5) = w1 at *
  clear hmk
  go_loopg [4, 12] n (fun g o i wx => ∃ k : Nat, k ≤ n ∧ g = n - k ∧ i = .int .i64 k ∧ Hid (Ut.allW (xs.take k) = true) ∧ OwnB5 wx w.heap.size o (Ut.enc (xs.take k)) ∧ Below w.heap.size w wx)
  case atStart => exact ⟨0, Nat.zero_le _, rfl, rfl, rfl, HO.out, HB.out⟩
  case round =>
    obtain ⟨k, hk, rfl, rfl, hA, hown, hbel⟩ := hrel
    by_cases hkn : k < n
    · have i1 : (k : Int) < (n : Int) := by omega
      have kx : k < xs.length := by rw [← HN.out]; exact hkn
      obtain ⟨g, o, rfl, hg, hcu⟩ := HV.out (by omega)
      have c1 : wr.cell? ⟨g, o + k, none⟩ = some (.int .i64 xs[k]) := (hbel.cell (p := ⟨g, o + k, none⟩) hg).trans (hcu k kx)
      have hs1 := Ut.allW_step kx
      have hs2 := Ut.enc_step kx
      have hs3 := @Ut.allW_not xs k kx
      have hl4 : (Ut.enc (xs.take k)).length + 4 ≤ 140737488355328 := by
        have := (Ut.enc_length (xs.take k)).2
        have h2 : (xs.take k).length ≤ k := List.length_take_le _ _
        omega
      have hw := Lib.hid (whole_any xs[k] wr)
      have har := Lib.hid (fun (hc : 0 ≤ xs[k] ∧ xs[k] ≤ 1114111) => appendRune_any wr w.heap.size hbel.size _ _ xs[k] hown hc hl4)
      have hwi := @Ut.whole_iff xs[k]
      rw [← hs2] at har
      clear hcu hs2 hl4
      generalize xs[k] = c at *
      cases hwc : Ut.whole c
      · rw [hwc] at hw
        have hno := Lib.hid (hs3 hwc)
        have HBE := Lib.hid hbel
        clear hs1 hs3 hwi hown hbel har hA
        go_wp2_with fail
        refine hw.out.mono ?_
        rintro e w2 ⟨rfl, rfl⟩
        go_wp2_with fail
        go_ret2
        exact ⟨ret_si (by rw [Ut.encS_no hno.out]) (by rw [Ut.encE_no hno.out]), HBE.out⟩
      · rw [hwc] at hw hs1
        have hc := hwi.1 hwc
        have hA2 : Hid (Ut.allW (xs.take (k + 1)) = true) := by show _ = _; rw [hs1, hA.out]; rfl
        have har2 := Lib.hid (har.out (by omega))
        have HBE := Lib.hid hbel
        clear hs1 hs3 hwi hown hbel har hA
        go_wp2_with fail
        refine hw.out.mono ?_
        rintro e w2 ⟨rfl, rfl⟩
        go_wp2_with fail
        refine har2.out.mono ?_
        rintro e w2 ⟨v2, rfl, hown2, hb2⟩
        have HO2 := Lib.hid hown2
        have HB2 : Hid (Below w.heap.size w w2) := HBE.out.trans hb2
        clear hown2 hb2
        go_wp2_with fail
        go_roundg (n - (k + 1))
        case rel => exact ⟨k + 1, by omega, rfl, by go_num, hA2, HO2.out, HB2.out⟩
        case measure => omega
    · obtain rfl : k = n := by omega
      have hcv := own_conv5 hown
      have hfull : xs.take k = xs := List.take_of_length_le (by rw [← HN.out]; exact Nat.le_refl _)
      rw [hfull] at hcv hA
      have HBE := Lib.hid hbel
      clear hown hbel hfull
      obtain ⟨S, hS⟩ : ∃ S, S = Ut.enc xs := ⟨_, rfl⟩
      have HS := Lib.hid hS
      rw [← hS] at hcv
      clear hS
      go_wp2_with fail
      go_ret2
      exact ⟨ret_si (by rw [HS.out, Ut.encS_yes hA.out]) (by rw [Ut.encE_yes hA.out]), HBE.out⟩
end Go.Proofs.YthhfmcikfdagiaaDoor

/-
  What rowOf answers: a row in a new block.
-/
namespace Go.Proofs.YthhfmcikfdagiaaDoor
open Go.RowKit

namespace Sp
/-- The cell j of a row. -/
def cellAt (r : List (Int × Int)) (j : Nat) : Int := if j % 2 = 0 then (r.getD (j / 2) (0, 0)).1 else (r.getD (j / 2) (0, 0)).2
theorem cellAt_lo (r : List (Int × Int)) (k : Nat) (h : k < r.length) : cellAt r (k * 2) = r[k].1 := by
  unfold cellAt
  rw [if_pos (by omega), show k * 2 / 2 = k by omega]
  simp [List.getD, h]
theorem cellAt_hi (r : List (Int × Int)) (k : Nat) (h : k < r.length) : cellAt r (k * 2 + 1) = r[k].2 := by
  unfold cellAt
  rw [if_neg (by omega), show (k * 2 + 1) / 2 = k by omega]
  simp [List.getD, h]
/-- The cell j of a row of which k ranges are told. -/
def cellUpto (r : List (Int × Int)) (k j : Nat) : Int := if j < k * 2 then cellAt r j else 0
theorem cellUpto_set (r : List (Int × Int)) (k : Nat) (h : k < r.length) (j : Nat) : (if j = k * 2 + 1 then Value.int .i64 r[k].2 else if j = k * 2 then Value.int .i64 r[k].1 else .int .i64 (cellUpto r k j)) = .int .i64 (cellUpto r (k + 1) j) := by
  have h1 := cellAt_lo r k h
  have h2 := cellAt_hi r k h
  unfold cellUpto
  by_cases e1 : j = k * 2 + 1
  · subst e1
    rw [if_pos rfl, if_pos (by omega), h2]
  · rw [if_neg e1]
    by_cases e2 : j = k * 2
    · subst e2
      rw [if_pos rfl, if_pos (by omega), h1]
    · rw [if_neg e2]
      by_cases e3 : j < k * 2
      · rw [if_pos e3, if_pos (by omega)]
      · rw [if_neg e3, if_neg (by omega)]
theorem good_whole {f l : Int} {tails t : Nat} {a b : Int} (hk : InCut f l tails) (h : Good f l tails t a b) : Ut.whole a = true ∧ Ut.whole b = true ∧ (Lib.encodeRuneZ a).length = tails + 1 ∧ (Lib.encodeRuneZ b).length = tails + 1 := by
  have h1 := h.lo
  have h2 := h.hi
  have h3 := h.le
  rw [Ut.whole_iff, Ut.whole_iff]
  cases hk
  · rw [Lib.encodeRuneZ_one (by omega) (by omega), Lib.encodeRuneZ_one (by omega) (by omega)]
    exact ⟨by omega, by omega, rfl, rfl⟩
  · rw [Lib.encodeRuneZ_two (by omega) (by omega), Lib.encodeRuneZ_two (by omega) (by omega)]
    exact ⟨by omega, by omega, rfl, rfl⟩
  · rw [Lib.encodeRuneZ_three (by omega), Lib.encodeRuneZ_three (by omega)]
    exact ⟨by omega, by omega, rfl, rfl⟩
  · rw [Lib.encodeRuneZ_three (by omega), Lib.encodeRuneZ_three (by omega)]
    exact ⟨by omega, by omega, rfl, rfl⟩
  · rw [Lib.encodeRuneZ_four (by omega) (by omega), Lib.encodeRuneZ_four (by omega) (by omega)]
    exact ⟨by omega, by omega, rfl, rfl⟩
/-- The text of one character. -/
def txt (c : Int) : ByteArray := ⟨(Ut.encS [c]).toArray⟩
theorem encS_one {c : Int} (h : Ut.whole c = true) : Ut.encS [c] = Lib.encodeRune c := by
  rw [Ut.encS_yes (by simp [Ut.allW, h])]
  simp [Ut.enc]
theorem txt_size {c : Int} (h : Ut.whole c = true) : (txt c).size = (Lib.encodeRuneZ c).length := by
  show (Ut.encS [c]).toArray.size = _
  rw [encS_one h, List.size_toArray]
  unfold Lib.encodeRune
  rw [List.length_map]
theorem txt_at {c : Int} (h : Ut.whole c = true) (k : Nat) (hk : k < (txt c).size) (hk2 : k < (Lib.encodeRuneZ c).length) : (((txt c)[k]).toNat : Int) = (Lib.encodeRuneZ c)[k] := by
  have hb := Lib.encodeRuneZ_byte c _ (List.getElem_mem hk2)
  have e : (txt c)[k] = ((Lib.encodeRuneZ c)[k]).toNat.toUInt8 := by
    have : (txt c)[k] = (Ut.encS [c])[k]'(by have : (txt c).size = (Ut.encS [c]).length := List.size_toArray; omega) := rfl
    rw [this]
    simp only [encS_one h]
    unfold Lib.encodeRune
    rw [List.getElem_map]
  rw [e]
  exact Ut.byteI _ hb.1 hb.2
end Sp
theorem Tryd.infoR : (Tryd.prog.info? 121).map (fun i => (i.zero, i.size, i.bytes)) = some (some (.agg #[.int .i64 0, .int .i64 0]), 2, 16) := by kernel_rfl
/-- The block g is this row. -/
def RowG (w : World) (g : Nat) (r : List (Int × Int)) : Prop := w.rowIs g 121 (r.length * 2) (fun j => .int .i64 (Sp.cellAt r j))
theorem makeR (n : Nat) (hn : n ≤ 1000) (w : World) :
    (Instr.makeSlice 91 (.int .i64 (n : Int)) (.int .i64 (n : Int))).run Tryd.prog w = .ok (.slice (some ⟨w.heap.size, 0, none⟩) n n) (w.alloc (.cells (madeCells #[.int .i64 0, .int .i64 0] (n * 2)) 121)) := by
  obtain ⟨ii, hi, hz0, hz1, hz2⟩ := info_parts Tryd.infoR
  have h := run_make (P := Tryd.prog) w 91 121 ii _ Tryd.underlying91 hi hz0 .i64 .i64 (n : Int) (n : Int) (by omega) (by omega) (by rw [hz2]; omega) (by omega)
  rw [hz1, Int.toNat_natCast] at h
  exact h
theorem madeR (w : World) (n : Nat) (r : List (Int × Int)) : (w.alloc (.cells (madeCells #[.int .i64 0, .int .i64 0] (n * 2)) 121)).rowIs w.heap.size 121 (n * 2) (fun j => .int .i64 (Sp.cellUpto r 0 j)) := by
  refine ⟨_, Go.Deep.blk_alloc_new _ _, by rw [size_madeCells], fun i hi => ?_⟩
  have : i % 2 = 0 ∨ i % 2 = 1 := by omega
  rcases this with h | h <;> simp [madeCells, Sp.cellUpto, h, hi]

set_option maxRecDepth 100000 in
set_option maxHeartbeats 2000000 in
theorem rowOf_any (a b f l : Int) (tails t : Nat) (hk : Sp.InCut f l tails) (hgd : Sp.Good f l tails t a b) (w : World) :
    Calls Tryd.prog 66 #[.int .i64 a, .int .i64 b] w fun e w' => ∃ g, e = .returned (.slice (some ⟨g, 0, none⟩) (tails + 1) (tails + 1)) ∧ w.heap.size ≤ g ∧ RowG w' g (Sp.rowOf (a, b)) ∧ Below w.heap.size w w' := by
  obtain ⟨ha, hb, la, lb⟩ := Sp.good_whole hk hgd
  obtain ⟨h3, _⟩ := Sp.cut_small hk
  have sa := Sp.txt_size ha
  have sb := Sp.txt_size hb
  have lr : (Sp.rowOf (a, b)).length = tails + 1 := by unfold Sp.rowOf; rw [List.length_zip, la, lb]; simp
  have hat : ∀ k (h1 : k < (Sp.txt a).size) (h2 : k < (Sp.rowOf (a, b)).length), (((Sp.txt a)[k]).toNat : Int) = (Sp.rowOf (a, b))[k].1 := fun k h1 h2 => by
    rw [Sp.txt_at ha k h1 (by omega)]
    simp [Sp.rowOf]
  have hbt : ∀ k (h1 : k < (Sp.txt b).size) (h2 : k < (Sp.rowOf (a, b)).length), (((Sp.txt b)[k]).toNat : Int) = (Sp.rowOf (a, b))[k].2 := fun k h1 h2 => by
    rw [Sp.txt_at hb k h1 (by omega)]
    simp [Sp.rowOf]
  rw [la] at sa
  rw [lb] at sb
  have H1 : Hid (∀ w : World, Calls Tryd.prog 86 #[.slice (some ⟨w.heap.size, 0, none⟩) 1 1] (w.alloc (.cells #[.int .i64 a] 3)) fun e w' => e = .returned (.tuple #[.string (Sp.txt a), .int .i64 (Ut.encE [a])]) ∧ Below (w.alloc (.cells #[.int .i64 a] 3)).heap.size (w.alloc (.cells #[.int .i64 a] 3)) w') := fun w => encode_any _ _ [a] (ints_lit w [a] (by simp)) (by simp)
  have H2 : Hid (∀ w : World, Calls Tryd.prog 86 #[.slice (some ⟨w.heap.size, 0, none⟩) 1 1] (w.alloc (.cells #[.int .i64 b] 3)) fun e w' => e = .returned (.tuple #[.string (Sp.txt b), .int .i64 (Ut.encE [b])]) ∧ Below (w.alloc (.cells #[.int .i64 b] 3)).heap.size (w.alloc (.cells #[.int .i64 b] 3)) w') := fun w => encode_any _ _ [b] (ints_lit w [b] (by simp)) (by simp)
  have HAT := Lib.hid hat
  have HBT := Lib.hid hbt
  have HSA := Lib.hid sa
  have HSB := Lib.hid sb
  have HLR := Lib.hid lr
  generalize Sp.rowOf (a, b) = r at *
  generalize Sp.txt a = s1 at *
  generalize Sp.txt b = s2 at *
  generalize Ut.encE [a] = e1 at *
  generalize Ut.encE [b] = e2 at *
  obtain ⟨n, hn⟩ : ∃ n, n = tails + 1 := ⟨_, rfl⟩
  have hn4 : n ≤ 4 := by omega
  rw [← hn] at sa sb ⊢
  have HN := Lib.hid hn
  clear hat hbt lr hgd hk ha hb la lb hn h3
  have hmk := makeR n (by omega)
  go_enter Tryd.func66, Tryd.ntmps66
  go_wp2_with fail
  refine (H1.out w).mono ?_
  rintro e w1 ⟨rfl, hb1⟩
  have HB1 : Hid (Below w.heap.size w w1) := ((Below.refl _ _).alloc (Nat.le_refl _) _).trans (hb1.mono (by simp))
  clear hb1
  go_wp2_with fail
  refine (H2.out w1).mono ?_
  rintro e w2 ⟨rfl, hb2⟩
  have HB2 : Hid (Below w.heap.size w w2) := HB1.out.trans (((Below.refl _ _).alloc (Nat.le_refl _) _).trans (hb2.mono (by simp)) |>.mono HB1.out.size)
  clear hb2 HB1
  go_wp2_with fail
  have hst : Hid ((w2.alloc (.cells (madeCells #[.int .i64 0, .int .i64 0] (n * 2)) 121)).rowIs w2.heap.size 121 (n * 2) (fun j => .int .i64 (Sp.cellUpto r 0 j))) := madeR w2 n r
  have HB3 : Hid (Below w.heap.size w (w2.alloc (.cells (madeCells #[.int .i64 0, .int .i64 0] (n * 2)) 121))) := HB2.out.alloc HB2.out.size _
  obtain ⟨G, hG⟩ : ∃ G, G = w2.heap.size := ⟨_, rfl⟩
  have HG : Hid (w.heap.size ≤ G) := by show _ ≤ _; rw [hG]; exact HB2.out.size
  rw [← hG] at hst ⊢
  clear hG hmk
  generalize w2.alloc (.cells (madeCells #[.int .i64 0, .int .i64 0] (n * 2)) 121) = w3 at *
  go_loopg [28] n (fun g i wx => ∃ k : Nat, k ≤ n ∧ g = n - k ∧ i = .int .i64 k ∧ Hid (wx.rowIs G 121 (n * 2) (fun j => .int .i64 (Sp.cellUpto r k j))) ∧ Hid (Below w.heap.size w wx))
  case atStart => exact ⟨0, Nat.zero_le _, rfl, rfl, hst, HB3⟩
  case round =>
    obtain ⟨k, hkn, rfl, rfl, hrow, hbel⟩ := hrel
    by_cases hlt : k < n
    · have i1 : (k : Int) < (n : Int) := by omega
      have k1 : k < s1.size := by omega
      have k2 : k < s2.size := by omega
      have kr : k < r.length := by have := HLR.out; have := HN.out; omega
      have x1 := HAT.out k k1 kr
      have x2 := HBT.out k k2 kr
      have y1 : 0 ≤ r[k].1 := by omega
      have y2 : r[k].1 ≤ 255 := by have := (s1[k]).toNat_lt; omega
      have y3 : 0 ≤ r[k].2 := by omega
      have y4 : r[k].2 ≤ 255 := by have := (s2[k]).toNat_lt; omega
      have c1 := hrow.out.cell (i := k * 2) (by omega)
      have c2 := hrow.out.cell (i := k * 2 + 1) (by omega)
      have f1 := hrow.out.frozen (k * 2)
      have f2 := hrow.out.frozen (k * 2 + 1)
      go_wp2_with fail
      go_region
      go_wp2_with fail
      go_roundg (n - (k + 1))
      case rel =>
        have R1 : Hid (((wr.setCell ⟨G, k * 2, none⟩ (.int .i64 r[k].1)).setCell ⟨G, k * 2 + 1, none⟩ (.int .i64 r[k].2)).drew.rowIs G 121 (n * 2) (fun j => .int .i64 (Sp.cellUpto r (k + 1) j))) :=
          (((hrow.out.set (k * 2) (.int .i64 r[k].1)).set (k * 2 + 1) (.int .i64 r[k].2)).congr fun j _ => Sp.cellUpto_set r k kr j).drew
        have R2 : Hid (Below w.heap.size w ((wr.setCell ⟨G, k * 2, none⟩ (.int .i64 r[k].1)).setCell ⟨G, k * 2 + 1, none⟩ (.int .i64 r[k].2)).drew) := ((hbel.out.setCell HG.out _).setCell HG.out _).drew
        exact ⟨k + 1, by omega, rfl, by go_num, R1, R2⟩
      case measure => omega
    · obtain rfl : k = n := by omega
      go_wp2_with fail
      go_ret
      have e := HN.out
      subst e
      refine ⟨G, rfl, HG.out, ?_, hbel.out⟩
      unfold RowG
      rw [HLR.out]
      exact hrow.out.congr fun j hj => by simp only [Sp.cellUpto, if_pos hj]
end Go.Proofs.YthhfmcikfdagiaaDoor

/-
  Rows in memory: a list of the call's own, each row in a block of its own; append onto it.
-/
namespace Go.Proofs.YthhfmcikfdagiaaDoor
open Go.RowKit

theorem Tryd.infoRR : (Tryd.prog.info? 91).map (fun i => (i.zero, i.size, i.bytes)) = some (some (.slice none 0 0), 1, 24) := by kernel_rfl
def rowVs (gs : List Nat) (L : List (List (Int × Int))) : List Value := (gs.zip L).map fun p => .slice (some ⟨p.1, 0, none⟩) p.2.length p.2.length
theorem rowVs_at {gs : List Nat} {L : List (List (Int × Int))} (j : Nat) (h1 : j < gs.length) (h2 : j < L.length) : (rowVs gs L)[j]? = some (.slice (some ⟨gs[j], 0, none⟩) L[j].length L[j].length) := by
  unfold rowVs
  rw [List.getElem?_map, List.getElem?_eq_getElem (by simp; omega)]
  simp
theorem rowVs_snoc {gs : List Nat} {L : List (List (Int × Int))} (h : gs.length = L.length) (g : Nat) (r : List (Int × Int)) : rowVs gs L ++ [.slice (some ⟨g, 0, none⟩) r.length r.length] = rowVs (gs ++ [g]) (L ++ [r]) := by
  unfold rowVs
  rw [List.zip_append h]
  simp
/-- The rows of the call's own. -/
structure RowsO (w : World) (B : Nat) (v : Value) (gs : List Nat) (L : List (List (Int × Int))) : Prop where
  own : w.ownsRow B 91 1 v L.length (rowVs gs L)
  len : gs.length = L.length
  row : ∀ j (h : j < gs.length) (h2 : j < L.length), B ≤ gs[j] ∧ RowG w gs[j] L[j]
  inc : gs.Pairwise (· < ·)
theorem RowG.kind {w : World} {g : Nat} {r : List (Int × Int)} (h : RowG w g r) : ∃ (c : Array Value) (fz : Nat × Nat), w.heap[g]? = some (Obj.cells c 121 fz) := by
  obtain ⟨c, h1, _⟩ := id h
  exact ⟨c, _, h1⟩
theorem RowG.of_block {w w' : World} {g : Nat} {r : List (Int × Int)} (h : RowG w g r) (e : w'.heap[g]? = w.heap[g]?) : RowG w' g r := World.rowIs.of_block h e
theorem RowG.lt {w : World} {g : Nat} {r : List (Int × Int)} (h : RowG w g r) : g < w.heap.size := World.rowIs.lt h
theorem RowsO.nil (w : World) (B : Nat) : RowsO w B (.slice none 0 0) [] [] := ⟨World.ownsRow_nil w B _ _, rfl, fun j h => by simp at h, List.Pairwise.nil⟩
theorem RowsO.kind {w : World} {B : Nat} {v : Value} {gs : List Nat} {L : List (List (Int × Int))} (h : RowsO w B v gs L) : ∀ g, v.ownBlock = some g → B ≤ g ∧ g < w.heap.size ∧ ∃ (c : Array Value) (fz : Nat × Nat), w.heap[g]? = some (Obj.cells c 91 fz) := by
  intro g hv
  refine ⟨(World.ownsRow.lt h.own g hv).1, (World.ownsRow.lt h.own g hv).2, ?_⟩
  rcases h.own.2 with ⟨h1, _⟩ | ⟨g', cap, cur, h1, hg, hh, _⟩
  · rw [h1] at hv; cases hv
  · rw [h1] at hv
    obtain rfl : g' = g := by simpa [Value.ownBlock] using hv
    exact ⟨_, _, hh⟩
theorem kinds_neY {w : World} {g k : Nat} {c c' : Array Value} {t t' : TypeId} {fz fz' : Nat × Nat} (h : w.heap[g]? = some (.cells c t fz)) (h' : w.heap[k]? = some (.cells c' t' fz')) (ht : t ≠ t') : g ≠ k := by
  rintro rfl
  rw [h] at h'
  injection h' with h'
  injection h' with _ h2
  exact ht h2
theorem ownsRow_keepY {w w' : World} {B : Nat} {t : TypeId} {z : Nat} {v : Value} {n : Nat} {xs : List Value} (h : w.ownsRow B t z v n xs) (e : ∀ k, v.ownBlock = some k → w'.heap[k]? = w.heap[k]?) : w'.ownsRow B t z v n xs := by
  refine ⟨h.1, ?_⟩
  rcases h.2 with h1 | ⟨g, cap, cur, rfl, hg, hh, hr⟩
  · exact .inl h1
  · exact .inr ⟨g, cap, cur, rfl, hg, (e g rfl).trans hh, hr⟩
theorem RowsO.keep {w w' : World} {B : Nat} {v : Value} {gs : List Nat} {L : List (List (Int × Int))} (h : RowsO w B v gs L) (e : ∀ k, k < w.heap.size → w'.heap[k]? = w.heap[k]?) : RowsO w' B v gs L :=
  ⟨ownsRow_keepY h.own fun k hv => e k (h.kind k hv).2.1, h.len, fun j h1 h2 => ⟨(h.row j h1 h2).1, (h.row j h1 h2).2.of_block (e _ (h.row j h1 h2).2.lt)⟩, h.inc⟩
theorem RowsO.below {w w' : World} {B : Nat} {v : Value} {gs : List Nat} {L : List (List (Int × Int))} (h : RowsO w B v gs L) (hb : Below w.heap.size w w') : RowsO w' B v gs L := h.keep fun k hk => hb.block k hk
theorem RowsO.alloc {w : World} {B : Nat} {v : Value} {gs : List Nat} {L : List (List (Int × Int))} (h : RowsO w B v gs L) (o : Obj) : RowsO (w.alloc o) B v gs L := h.keep fun _ hk => Go.Deep.blk_alloc_lt _ _ _ hk
/-- One row more. -/
theorem RowsO.push {wr w1 : World} {B G : Nat} {v v' : Value} {gs : List Nat} {L : List (List (Int × Int))} {r : List (Int × Int)} {o : Obj} (h : RowsO wr B v gs L) (hG : RowG wr G r) (hB : B ≤ G) (hlt : ∀ g ∈ gs, g < G)
    (h1 : w1.ownsRow B 91 1 v' (L.length + 1) (rowVs gs L ++ [.slice (some ⟨G, 0, none⟩) r.length r.length])) (hg : (wr.alloc o).grownBy w1 v.ownBlock) : RowsO w1 B v' (gs ++ [G]) (L ++ [r]) := by
  have hl := h.len
  have keep : ∀ (k : Nat) (c : Array Value) (fz : Nat × Nat), wr.heap[k]? = some (Obj.cells c 121 fz) → w1.heap[k]? = wr.heap[k]? := fun k c fz hk => by
    obtain ⟨hlk, _⟩ := Array.getElem?_eq_some_iff.1 hk
    rw [hg.block k (by simp; omega) (fun e => ?_), Go.Deep.blk_alloc_lt _ _ _ hlk]
    obtain ⟨_, _, c', fz', hc'⟩ := h.kind k e.symm
    exact kinds_neY hk hc' (by decide) rfl
  refine ⟨?_, by simp [hl], fun j hj hj2 => ?_, ?_⟩
  · rw [rowVs_snoc hl] at h1
    simpa using h1
  · by_cases e : j < gs.length
    · rw [List.getElem_append_left e, List.getElem_append_left (by omega)]
      obtain ⟨q1, q2⟩ := h.row j e (by omega)
      obtain ⟨c, fz, hc⟩ := q2.kind
      exact ⟨q1, q2.of_block (keep _ c fz hc)⟩
    · have e' : j = gs.length := by simp at hj; omega
      subst e'
      simp only [hl, List.getElem_append_right (Nat.le_refl _), Nat.sub_self, List.getElem_cons_zero]
      obtain ⟨c, fz, hc⟩ := hG.kind
      have e3 : (gs ++ [G])[L.length]'(by simp; omega) = G := by simp only [← hl, List.getElem_append_right (Nat.le_refl _), Nat.sub_self, List.getElem_cons_zero]
      rw [e3]
      exact ⟨hB, hG.of_block (keep _ c fz hc)⟩
  · rw [List.pairwise_append]
    exact ⟨h.inc, List.pairwise_singleton _ _, fun a ha b hb => by rw [List.mem_singleton.1 hb]; exact hlt a ha⟩
theorem new_sliceY (w : World) (a : Option Addr) (m c : Nat) : ∀ j u, [Value.slice a m c][j]? = some u → (w.alloc (.cells #[.slice a m c] 91)).cell? ((⟨w.heap.size, 0, none⟩ : Addr).add j) = some u := by
  intro j u hj
  match j, hj with
  | 0, hj => simp at hj; subst hj; simp [Addr.add]
theorem RowsO.blocks {w : World} {B : Nat} {v : Value} {gs : List Nat} {L : List (List (Int × Int))} (h : RowsO w B v gs L) : ∀ g ∈ gs, g < w.heap.size := by
  intro g hg
  obtain ⟨j, hj, rfl⟩ := List.mem_iff_getElem.1 hg
  exact (h.row j hj (by rw [← h.len]; exact hj)).2.lt
/-- 'append(v, row)' of one row, whose slice lies in a new block. -/
theorem wpList_pushRow {ops : Array Oper} {rest : List Oper} {o : Oper} {a : Act} {Q : Exit → Act → World → Prop} {w : World} (hgd : o.guard = none) (s x : Operand)
    (ho : o.op = .call { callee := .builtin .append, args := #[s, x], argTypes := #[89, 89] })
    (B G m : Nat) (v : Value) (gs : List Nat) (L : List (List (Int × Int))) (r : List (Int × Int)) (hs : a.eval s = v) (h : RowsO w B v gs L) (hB : B ≤ w.heap.size) (hG : RowG w G r) (hBG : B ≤ G) (hlt : ∀ g ∈ gs, g < G) (hr : r.length = m)
    (hx : a.eval x = .slice (some ⟨w.heap.size, 0, none⟩) 1 1) (hb : L.length + 1 ≤ 1099511627776)
    (hk : ∀ v' w', RowsO w' B v' (gs ++ [G]) (L ++ [r]) → (w.alloc (.cells #[.slice (some ⟨G, 0, none⟩) m m] 91)).grownBy w' v.ownBlock → wpList Tryd.prog ops Q rest (a.put o.dst v') w') :
    wpList Tryd.prog ops Q (o :: rest) a (w.alloc (.cells #[.slice (some ⟨G, 0, none⟩) m m] 91)) := by
  subst hr
  obtain ⟨ii, hi, hz0, hz1, hz2⟩ := info_parts Tryd.infoRR
  refine wpList_append_own _ hgd s x 89 ho B 91 ii (.slice none 0 0) 1 24 Tryd.underlying89 hi hz0 hz1 hz2 rfl (by decide) _ _ _ hs (h.own.alloc _) ⟨w.heap.size, 0, none⟩ 1 1 [.slice (some ⟨G, 0, none⟩) r.length r.length] hx rfl (new_sliceY w _ _ _) ?_ (by unfold maxLen; omega) (by omega) (by simp; omega) ?_
  · intro u hu
    simp at hu
    subst hu
    rfl
  · intro v' w' h1 h2 _
    exact hk v' w' (h.push hG hBG hlt h1 h2) h2
end Go.Proofs.YthhfmcikfdagiaaDoor

/-
  What Rows answers.
-/
namespace Go.Proofs.YthhfmcikfdagiaaDoor
open Go.RowKit

namespace Sp
def upto (lo hi : Int) (k : Nat) : List (Int × Int) := (cuts.take k).flatMap fun k => segs (max lo k.1) (min hi k.2.1) k.2.2
theorem upto_step (lo hi : Int) (k : Nat) (f l : Int) (tl : Nat) (hc : cuts[k]? = some (f, l, tl)) : upto lo hi (k + 1) = upto lo hi k ++ segs (max lo f) (min hi l) tl := by
  unfold upto
  rw [List.take_add_one, hc, Option.toList_some, List.flatMap_append]
  simp
theorem upto_len (lo hi : Int) (k : Nat) : (upto lo hi k).length ≤ 20 := by
  have h := rows_few lo hi
  unfold rows at h
  rw [List.length_map] at h
  refine Nat.le_trans ?_ h
  unfold upto pairs
  conv => rhs; rw [← List.take_append_drop k cuts]
  rw [List.flatMap_append, List.length_append]
  exact Nat.le_add_right _ _
theorem done_len {lo hi : Int} {k : Nat} {f l : Int} {tl : Nat} (hc : cuts[k]? = some (f, l, tl)) {done rest : List (Int × Int)} (e : segs (max lo f) (min hi l) tl = done ++ rest) : (upto lo hi k ++ done).length ≤ 20 := by
  have h1 := upto_len lo hi (k + 1)
  rw [upto_step lo hi k f l tl hc, e] at h1
  simp only [List.length_append] at h1 ⊢
  omega
theorem cut_last {f l : Int} {tails : Nat} (h : InCut f l tails) : l ≤ 1114111 := by cases h <;> omega
theorem cut_at (k : Nat) (h : k < 5) : ∃ f l tl, cuts[k]? = some (f, l, tl) ∧ InCut f l tl := by
  have hk : k = 0 ∨ k = 1 ∨ k = 2 ∨ k = 3 ∨ k = 4 := by omega
  rcases hk with rfl | rfl | rfl | rfl | rfl
  · exact ⟨_, _, _, rfl, .c0⟩
  · exact ⟨_, _, _, rfl, .c1⟩
  · exact ⟨_, _, _, rfl, .c2⟩
  · exact ⟨_, _, _, rfl, .c3⟩
  · exact ⟨_, _, _, rfl, .c4⟩
end Sp
theorem mem_snoc {w : World} {B : Nat} {v : Value} {gs : List Nat} {L : List (List (Int × Int))} (h : RowsO w B v gs L) {G : Nat} (hG : w.heap.size ≤ G) : ∀ g ∈ gs, g < G := fun g hg => by have := h.blocks g hg; omega
theorem cut_index0 (w : World) : (Instr.index 117 (.agg #[.int .i64 0, .int .i64 127, .int .i64 0, .int .i64 128, .int .i64 2047, .int .i64 1, .int .i64 2048, .int .i64 55295, .int .i64 2, .int .i64 57344, .int .i64 65535, .int .i64 2, .int .i64 65536, .int .i64 1114111, .int .i64 3]) (.int .i64 0)).run Tryd.prog w = .ok (.agg #[.int .i64 0, .int .i64 127, .int .i64 0]) w := by kernel_rfl
theorem cut_index1 (w : World) : (Instr.index 117 (.agg #[.int .i64 0, .int .i64 127, .int .i64 0, .int .i64 128, .int .i64 2047, .int .i64 1, .int .i64 2048, .int .i64 55295, .int .i64 2, .int .i64 57344, .int .i64 65535, .int .i64 2, .int .i64 65536, .int .i64 1114111, .int .i64 3]) (.int .i64 1)).run Tryd.prog w = .ok (.agg #[.int .i64 128, .int .i64 2047, .int .i64 1]) w := by kernel_rfl
theorem cut_index2 (w : World) : (Instr.index 117 (.agg #[.int .i64 0, .int .i64 127, .int .i64 0, .int .i64 128, .int .i64 2047, .int .i64 1, .int .i64 2048, .int .i64 55295, .int .i64 2, .int .i64 57344, .int .i64 65535, .int .i64 2, .int .i64 65536, .int .i64 1114111, .int .i64 3]) (.int .i64 2)).run Tryd.prog w = .ok (.agg #[.int .i64 2048, .int .i64 55295, .int .i64 2]) w := by kernel_rfl
theorem cut_index3 (w : World) : (Instr.index 117 (.agg #[.int .i64 0, .int .i64 127, .int .i64 0, .int .i64 128, .int .i64 2047, .int .i64 1, .int .i64 2048, .int .i64 55295, .int .i64 2, .int .i64 57344, .int .i64 65535, .int .i64 2, .int .i64 65536, .int .i64 1114111, .int .i64 3]) (.int .i64 3)).run Tryd.prog w = .ok (.agg #[.int .i64 57344, .int .i64 65535, .int .i64 2]) w := by kernel_rfl
theorem cut_index4 (w : World) : (Instr.index 117 (.agg #[.int .i64 0, .int .i64 127, .int .i64 0, .int .i64 128, .int .i64 2047, .int .i64 1, .int .i64 2048, .int .i64 55295, .int .i64 2, .int .i64 57344, .int .i64 65535, .int .i64 2, .int .i64 65536, .int .i64 1114111, .int .i64 3]) (.int .i64 4)).run Tryd.prog w = .ok (.agg #[.int .i64 65536, .int .i64 1114111, .int .i64 3]) w := by kernel_rfl
theorem cut_index (k : Nat) (f l : Int) (tl : Nat) (h : Sp.cuts[k]? = some (f, l, tl)) (w : World) :
    (Instr.index 117 (.agg #[.int .i64 0, .int .i64 127, .int .i64 0, .int .i64 128, .int .i64 2047, .int .i64 1, .int .i64 2048, .int .i64 55295, .int .i64 2, .int .i64 57344, .int .i64 65535, .int .i64 2, .int .i64 65536, .int .i64 1114111, .int .i64 3]) (.int .i64 (k : Int))).run Tryd.prog w = .ok (.agg #[.int .i64 f, .int .i64 l, .int .i64 (tl : Int)]) w := by
  have hk : k < 5 := (List.getElem?_eq_some_iff.1 h).1
  have hk : k = 0 ∨ k = 1 ∨ k = 2 ∨ k = 3 ∨ k = 4 := by omega
  rcases hk with rfl | rfl | rfl | rfl | rfl
  · simp [Sp.cuts] at h
    obtain ⟨rfl, rfl, rfl⟩ := h
    exact cut_index0 w
  · simp [Sp.cuts] at h
    obtain ⟨rfl, rfl, rfl⟩ := h
    exact cut_index1 w
  · simp [Sp.cuts] at h
    obtain ⟨rfl, rfl, rfl⟩ := h
    exact cut_index2 w
  · simp [Sp.cuts] at h
    obtain ⟨rfl, rfl, rfl⟩ := h
    exact cut_index3 w
  · simp [Sp.cuts] at h
    obtain ⟨rfl, rfl, rfl⟩ := h
    exact cut_index4 w

set_option maxRecDepth 100000 in
set_option maxHeartbeats 2000000 in
theorem rows_any (lo hi : Int) (w : World) :
    Calls Tryd.prog 46 #[.int .i64 lo, .int .i64 hi] w fun e w' => ∃ v gs, e = .returned v ∧ RowsO w' w.heap.size v gs (Sp.rows lo hi) ∧ Below w.heap.size w w' := by
  go_enter Tryd.func46, Tryd.ntmps46
  go_wp2_with fail
  have HB0 : Hid (∀ o, Below w.heap.size w (w.alloc o)) := fun o => (Below.refl _ _).alloc (Nat.le_refl _) o
  obtain ⟨w1, hw1⟩ : ∃ w1, w1 = w.alloc (.cells #[.int .i64 0, .int .i64 127, .int .i64 0, .int .i64 128, .int .i64 2047, .int .i64 1, .int .i64 2048, .int .i64 55295, .int .i64 2, .int .i64 57344, .int .i64 65535, .int .i64 2, .int .i64 65536, .int .i64 1114111, .int .i64 3] 117) := ⟨_, rfl⟩
  have HB1 : Hid (Below w.heap.size w w1) := by rw [hw1]; exact HB0.out _
  rw [← hw1]
  clear hw1 HB0
  go_loopg [6, 19] 5 (fun g v i wx => ∃ (k : Nat) (gs : List Nat), k ≤ 5 ∧ g = 5 - k ∧ i = .int .i64 k ∧ Hid (RowsO wx w.heap.size v gs ((Sp.upto lo hi k).map Sp.rowOf)) ∧ Hid (Below w.heap.size w wx))
  case atStart => exact ⟨0, [], by omega, rfl, rfl, RowsO.nil _ _, HB1⟩
  case round =>
    obtain ⟨k, gs, hk, rfl, rfl, hrows, hbel⟩ := hrel
    by_cases hlt : k < 5
    · have i1 : (k : Int) < 5 := by omega
      obtain ⟨f, l, tl, hcut, hin⟩ := Sp.cut_at k hlt
      have hix := cut_index k f l tl hcut
      obtain ⟨M, hM⟩ : ∃ M, M = min hi l := ⟨_, rfl⟩
      obtain ⟨C, hC⟩ : ∃ C, C = max lo f := ⟨_, rfl⟩
      have hmin : min hi l = M := hM.symm
      have hmin2 : min l hi = M := by rw [hM]; omega
      have hmax : max lo f = C := hC.symm
      have hmax2 : max f lo = C := by rw [hC]; omega
      have hf0 := (Sp.cut_small hin).2
      have htl := (Sp.cut_small hin).1
      have hl1 := Sp.cut_last hin
      have hCf : f ≤ C := by omega
      have hMl : M ≤ l := by omega
      have HUP := Lib.hid (Sp.upto_step lo hi k f l tl hcut)
      have HDL := Lib.hid (fun done rest => @Sp.done_len lo hi k f l tl hcut done rest)
      rw [← hM, ← hC] at HUP HDL
      have HIN := Lib.hid hin
      have HBS : Hid (w.heap.size ≤ wr.heap.size) := hbel.out.size
      have HROW := Lib.hid (hrows.out.alloc (.cells #[.int .i64 f, .int .i64 l, .int .i64 (tl : Int)] 116))
      have HBL : Hid (Below w.heap.size w (wr.alloc (.cells #[.int .i64 f, .int .i64 l, .int .i64 (tl : Int)] 116))) := hbel.out.alloc HBS.out _
      have HBK : Hid ((wr.alloc (.cells #[.int .i64 f, .int .i64 l, .int .i64 (tl : Int)] 116)).heap[wr.heap.size]? = some (.cells #[.int .i64 f, .int .i64 l, .int .i64 (tl : Int)] 116 (0, 0))) := Go.Deep.blk_alloc_new _ _
      clear hM hC hcut hin hrows hbel
      go_wp2_with fail
      clear hix hmin hmax hmin2 hmax2
      obtain ⟨b8, hb8⟩ : ∃ b, b = wr.heap.size := ⟨_, rfl⟩
      have HB8 : Hid (w.heap.size ≤ b8) := by show _ ≤ _; rw [hb8]; exact HBS.out
      rw [← hb8] at HBK ⊢
      clear hb8
      generalize wr.alloc (.cells #[.int .i64 f, .int .i64 l, .int .i64 (tl : Int)] 116) = W1 at *
      go_loopg [6, 10] (M + 1 - C).toNat (fun g v c wx => ∃ (vv : Value) (x : Int) (gs : List Nat) (done : List (Int × Int)), vv = v ∧ f ≤ x ∧ g = (M + 1 - x).toNat ∧ c = .int .i64 x ∧ Hid (Sp.segs C M tl = done ++ Sp.segs x M tl) ∧ Hid (RowsO wx w.heap.size v gs ((Sp.upto lo hi k ++ done).map Sp.rowOf)) ∧ Hid (Below w.heap.size w wx) ∧
        Hid (wx.heap[b8]? = some (.cells #[.int .i64 f, .int .i64 l, .int .i64 (tl : Int)] 116 (0, 0))))
      case atStart => exact ⟨_, C, gs, [], rfl, hCf, rfl, rfl, rfl, by rw [List.append_nil]; exact HROW.out, HBL, HBK⟩
      case round =>
        obtain ⟨vv, x, gs2, done, rfl, hfx, rfl, rfl, hseg, hrows, hbel, hblk⟩ := hrel
        by_cases hxM : x ≤ M
        · have hgd := (Sp.endOf_good x M f l tl htl (by omega) hfx hxM hMl)
          have hE := Lib.hid (endOf_any x M tl wr (by omega) hxM (by omega) htl)
          have hst := Sp.segs_step x M tl htl (by omega)
          rw [if_pos hxM] at hst
          obtain ⟨hg1, hg2⟩ := hgd
          have hle := hg1.le
          have HR := Lib.hid (rowOf_any x (Sp.endOf x M tl) f l tl _ HIN.out hg1)
          have hlen := HDL.out done (Sp.segs x M tl) hseg.out
          have HSEG : Hid (Sp.segs C M tl = (done ++ [(x, Sp.endOf x M tl)]) ++ Sp.segs (Sp.endOf x M tl + 1) M tl) := by
            show _ = _
            rw [List.append_assoc, List.singleton_append, ← hst]
            exact hseg.out
          have HLR : Hid ((Sp.rowOf (x, Sp.endOf x M tl)).length = tl + 1) := (Sp.row_good HIN.out hg1).len
          have c8 : wr.cell? ⟨b8, 2, none⟩ = some (.int .i64 (tl : Int)) := by simp [World.cell?, hblk.out]
          have HLEN : Hid (((Sp.upto lo hi k ++ done).map Sp.rowOf).length ≤ 20) := by show _ ≤ _; rw [List.length_map]; exact hlen
          clear hg1 hst hlen hseg
          generalize Sp.endOf x M tl = e at *
          go_wp2_with fail
          refine hE.out.mono ?_
          rintro e2 w2 ⟨rfl, rfl⟩
          go_wp2_with fail
          refine (HR.out wr).mono ?_
          rintro e2 w2 ⟨G, rfl, hG1, hG2, hG3⟩
          have HG1 : Hid (w.heap.size ≤ G) := Nat.le_trans hbel.out.size hG1
          have HG2 := Lib.hid hG2
          have HR2 := Lib.hid (hrows.out.below hG3)
          have HMS := Lib.hid (mem_snoc hrows.out hG1)
          have HB2 : Hid (Below w.heap.size w w2) := hbel.out.trans (hG3.mono hbel.out.size)
          have HK2 : Hid (w2.heap[b8]? = some (.cells #[.int .i64 f, .int .i64 l, .int .i64 (tl : Int)] 116 (0, 0))) := by
            have h8 := (Array.getElem?_eq_some_iff.1 hblk.out).1
            exact (hG3.block b8 h8).trans hblk.out
          clear hG1 hG2 hG3
          go_wp2_with (at_builtin; go_loud ((refine wpList_pushRow rfl _ _ rfl w.heap.size G (tl + 1) vv gs2 _ _ rfl HR2.out HB2.out.size HG2.out HG1.out HMS.out HLR.out rfl (by have := HLEN.out; omega) ?_)); intro v5 w5 hr5 hg5; have HR5 := Lib.hid hr5; have HG5 := Lib.hid hg5; clear hr5 hg5)
          have HK5 : Hid (w5.heap[b8]? = some (.cells #[.int .i64 f, .int .i64 l, .int .i64 (tl : Int)] 116 (0, 0))) := by
            have h8 := (Array.getElem?_eq_some_iff.1 HK2.out).1
            refine (HG5.out.block b8 (by simp; omega) (fun e => ?_)).trans ((Go.Deep.blk_alloc_lt _ _ _ h8).trans HK2.out)
            obtain ⟨_, _, c', fz', hc'⟩ := HR2.out.kind b8 e.symm
            exact kinds_neY HK2.out hc' (by decide) rfl
          have HB5 : Hid (Below w.heap.size w w5) := (HB2.out.alloc HB2.out.size _).grown HG5.out (by have := HB2.out.size; simp; omega) (fun j hj => (HR2.out.kind j hj).1)
          go_roundg (M + 1 - (e + 1)).toNat
          case rel => exact ⟨_, e + 1, _, _, rfl, by omega, rfl, by go_num, HSEG, by show RowsO _ _ _ _ _; simpa using HR5.out, HB5, HK5⟩
          case measure => omega
        · have hst := Sp.segs_step x M tl htl (by omega)
          rw [if_neg hxM] at hst
          have HU : Hid (Sp.upto lo hi (k + 1) = Sp.upto lo hi k ++ done) := by
            show _ = _
            rw [HUP.out, hseg.out, hst, List.append_nil]
          clear hst
          go_wp2_with fail
          go_roundg (5 - (k + 1))
          case rel => exact ⟨k + 1, gs2, by omega, rfl, by go_num, by rw [HU.out]; exact hrows, hbel⟩
          case measure => omega
    · obtain rfl : k = 5 := by omega
      go_wp2_with fail
      go_ret
      exact ⟨_, gs, rfl, hrows.out, hbel.out⟩
end Go.Proofs.YthhfmcikfdagiaaDoor

/-
  What Decode answers: the characters of all bytes, in new memory, or the refusal.
-/
namespace Go.Proofs.YthhfmcikfdagiaaDoor
open Go.RowKit

namespace Ut
open Go.Lib
/-- The characters of bytes, where there are such. -/
def decS (l : List UInt8) : List Int := if validD l = true then dec l else []
def decE (l : List UInt8) : Int := if validD l = true then 0 else 7
theorem decS_yes {l : List UInt8} (h : validD l = true) : decS l = dec l := if_pos h
theorem decE_yes {l : List UInt8} (h : validD l = true) : decE l = 0 := if_pos h
theorem decS_no {l : List UInt8} (h : validD l = false) : decS l = [] := if_neg (by rw [h]; exact Bool.false_ne_true)
theorem decE_no {l : List UInt8} (h : validD l = false) : decE l = 7 := if_neg (by rw [h]; exact Bool.false_ne_true)
theorem decS_length (l : List UInt8) : (decS l).length ≤ l.length := by
  unfold decS
  split
  · exact dec_length _ _
  · simp
end Ut

/-- The library's own tables, as its text lays them. -/
def Tabs (w : World) : Prop := Lib.Utf8Tabs 0 1 w
theorem Tabs.below {w w' : World} (h : Tabs w) (hb : Below w.heap.size w w') : Tabs w' := Utf8Tabs_below h hb

/-- What Decode answers. -/
def DecPost (w : World) (s : List UInt8) (e : Ending) (w' : World) : Prop :=
  ∃ v, e = .returned (.tuple #[v, .int .i64 (Ut.decE s)]) ∧ OwnI w' w.heap.size v (Ut.decS s) ∧ Below w.heap.size w w'
theorem made_ownI (w : World) (B n : Nat) (hB : B ≤ w.heap.size) (hn : n ≤ 17592186044416) :
    OwnI (w.alloc (.cells (madeCells #[.int .i64 0] n) 3)) B (.slice (some ⟨w.heap.size, 0, none⟩) 0 n) [] :=
  World.ownsRow_made w (madeCells #[.int .i64 0] n) n hB (by unfold maxLen; omega) (by rw [size_madeCells, Nat.mul_one])
theorem makeI (n : Nat) (hn : n ≤ 17592186044416) (w : World) :
    (Instr.makeSlice 22 (.int .i64 0) (.int .i64 (n : Int))).run Tryd.prog w = .ok (.slice (some ⟨w.heap.size, 0, none⟩) 0 n) (w.alloc (.cells (madeCells #[.int .i64 0] n) 3)) := by
  obtain ⟨ii, hi, hz0, hz1, hz2⟩ := info_parts Tryd.infoI
  have h := run_make (P := Tryd.prog) w 22 3 ii (.int .i64 0) Tryd.underlying22 hi hz0 .i64 .i64 0 (n : Int) (by omega) (by omega) (by rw [hz2]; omega) (by omega)
  rw [hz1, Int.toNat_natCast, Nat.mul_one] at h
  exact h
theorem ret_vi {v : Value} {a b : Int} (h2 : a = b) : Ending.returned (.tuple #[v, .int .i64 a]) = Ending.returned (.tuple #[v, .int .i64 b]) := by rw [h2]

set_option maxRecDepth 100000 in
set_option maxHeartbeats 2000000 in
theorem decode_any (w : World) (s : ByteArray) (hT : Tabs w) (hs : s.size ≤ 17592186044416) :
    Calls Tryd.prog 28 #[.string s] w (DecPost w s.data.toList) := by
  have hval := Lib.hid (Tryd.utf8_ValidString s w (by omega) hT)
  have hcnt := Lib.hid (fun w' => Tryd.utf8_RuneCountInString s w' (by omega))
  have hrc : Lib.runeCount s ≤ s.size := Lib.runeCount_le s
  generalize Lib.runeCount s = n at *
  cases hv : Lib.validD s.data.toList
  · rw [hv] at hval
    have h1 := Lib.hid (Ut.decS_no hv)
    have h2 := Lib.hid (Ut.decE_no hv)
    clear hv hT
    go_enter Tryd.func28, Tryd.ntmps28
    go_wp2_with fail
    refine hval.out.mono ?_
    rintro e w1 ⟨rfl, hb⟩
    have HB := Lib.hid hb
    clear hb
    go_wp2_with fail
    go_ret2
    exact ⟨_, ret_vi (by rw [h2.out]), by rw [h1.out]; exact World.ownsRow_nil _ _ _ _, HB.out⟩
  · rw [hv] at hval
    have h1 := Lib.hid (Ut.decS_yes hv)
    have h2 := Lib.hid (Ut.decE_yes hv)
    have HV := Lib.hid hv
    have hmk := makeI n (by omega)
    clear hv hT
    go_enter Tryd.func28, Tryd.ntmps28
    go_wp2_with fail
    refine hval.out.mono ?_
    rintro e w1 ⟨rfl, hb⟩
    have HB := Lib.hid hb
    clear hb hval
    go_wp2_with fail
    refine (hcnt.out w1).mono ?_
    rintro e w2 ⟨rfl, p2, hw2⟩
    have HB2 : Hid (Below w.heap.size w w2) := by
      rw [hw2]
      exact HB.out.alloc HB.out.size _
    clear hw2 HB hcnt
    go_wp2_with fail
    have HO : Hid (OwnI (w2.alloc (.cells (madeCells #[.int .i64 0] n) 3)) w.heap.size (.slice (some ⟨w2.heap.size, 0, none⟩) 0 n) []) := made_ownI w2 w.heap.size n HB2.out.size (by omega)
    have HB3 : Hid (Below w.heap.size w (w2.alloc (.cells (madeCells #[.int .i64 0] n) 3))) := HB2.out.alloc HB2.out.size _
    have hz3 : w2.heap.size + 1 = (w2.alloc (.cells (madeCells #[.int .i64 0] n) 3)).heap.size := by simp
    generalize w2.alloc (.cells (madeCells #[.int .i64 0] n) 3) = w3 at *
    clear hmk HB2
    generalize w2.heap.size + 1 = K at *
    have HK := Lib.hid hz3
    clear hz3
    go_loopg [4] s.size (fun g v wx => ∃ (pos : Nat) (acc : List Int), g = s.size - pos ∧ pos ≤ s.size ∧ acc.length ≤ pos ∧ wx.heap[K]? = some (.stringIter s pos) ∧ OwnI wx w.heap.size v acc ∧ Below w.heap.size w wx ∧
      Hid (Lib.validD (s.data.toList.drop pos) = true) ∧ Hid (acc ++ Ut.dec (s.data.toList.drop pos) = Ut.dec s.data.toList))
    case atStart =>
      refine ⟨0, [], rfl, Nat.zero_le _, Nat.le_refl _, ?_, ?_, ?_, HV.out, rfl⟩
      · rw [HK.out]; exact World.iter_heap w3 s 0
      · exact HO.out.keep ((Below.refl w3.heap.size w3).alloc (Nat.le_refl _) _) (Nat.le_refl _)
      · exact HB3.out.alloc HB3.out.size _
    case round =>
      obtain ⟨pos, acc, rfl, hp, hal, hit, hown, hbel, hvd, hdec⟩ := hrel
      obtain ⟨ad, cp, rfl, _⟩ := ownI_cells hown
      have hKs : w.heap.size ≤ K := by rw [HK.out]; exact HB3.out.size
      have hKr : K < wr.heap.size := (Array.getElem?_eq_some_iff.1 hit).1
      by_cases hps : pos < s.size
      · have hne : s.data.toList.drop pos ≠ [] := by
          intro h
          have := congrArg List.length h
          rw [List.length_drop] at this
          simp at this
          omega
        have hgood : ¬ Ut.Bad (s.data.toList.drop pos) := fun hb => by
          have := Ut.validD_bad _ hne hb
          rw [hvd.out] at this
          cases this
        have hvs := Ut.validD_good _ hne hgood
        have hds := Ut.dec_step _ hne
        have hle := Lib.decodeL_le _ hne
        have hw1 := Lib.decodeL_width (s.data.toList.drop pos)
        have hrn := Lib.decodeL_rune (s.data.toList.drop pos)
        rw [List.length_drop] at hle
        have hsl : s.data.toList.length = s.size := by simp
        rw [hsl] at hle
        have hnx : ∀ ty, (Instr.next (.pointer (some ⟨K, 0, none⟩)) true ty).run Tryd.prog wr = _ := fun ty => Lib.run_next_any_at wr K s pos ty hit hps
        rw [← Lib.decodeL_drop] at hnx
        have hit2 := Lib.iterAt_heap wr K s pos (pos + (Lib.decodeL (s.data.toList.drop pos)).2) hit
        have hown2 := hown.iterAt hit (pos + (Lib.decodeL (s.data.toList.drop pos)).2)
        have hbel2 := below_iterAt (s := s) hbel hKs (pos + (Lib.decodeL (s.data.toList.drop pos)).2)
        rw [List.drop_drop] at hvs hds
        generalize hwd : (Lib.decodeL (s.data.toList.drop pos)).2 = wd at *
        generalize hru : (Lib.decodeL (s.data.toList.drop pos)).1 = ru at *
        have hsz2 : (wr.iterAt K s (pos + wd)).heap.size = wr.heap.size := by simp [World.iterAt]
        rw [← hsz2] at hKr
        have hv2 : Hid (Lib.validD (s.data.toList.drop (pos + wd)) = true) := by show _ = _; rw [← hvs]; exact hvd.out
        have hd2 : Hid ((acc ++ [(ru : Int)]) ++ Ut.dec (s.data.toList.drop (pos + wd)) = Ut.dec s.data.toList) := by
          show _ = _
          rw [← hdec.out, hds, List.append_assoc]
          rfl
        have H2 := Lib.hid (And.intro hit2 (And.intro hown2 hbel2))
        have hne2 := Lib.hid (hown2.ne_iter hit2)
        have HBX := Lib.hid hbel2.size
        clear hgood hvs hds hne hown hbel hit hvd hdec hit2 hown2 hbel2 hsl hsz2 hwd hru
        generalize wr.iterAt K s (pos + wd) = wy at *
        go_wp2_with (at_builtin; go_loud ((refine wpList_pushI rfl _ _ rfl w.heap.size HBX.out (.slice ad acc.length cp) acc (ru : Int) rfl H2.out.2.1 rfl (by omega) ?_; intro v5 w5 hown5 hb5 hg5)))
        have hit5 : w5.heap[K]? = some (.stringIter s (pos + wd)) := by
          rw [hg5.block K (by simp; omega) (fun h => hne2.out K h.symm rfl)]
          exact (heap_alloc_old wy _ hKr).trans H2.out.1
        have H5 := Lib.hid (And.intro hit5 (And.intro hown5 (H2.out.2.2.trans hb5)))
        clear hit5 hown5 hb5 hg5
        go_wp2_with fail
        go_roundg (s.size - (pos + wd))
        case rel => exact ⟨pos + wd, acc ++ [(ru : Int)], rfl, by omega, by simp; omega, H5.out.1, H5.out.2.1, H5.out.2.2, hv2, hd2⟩
        case measure => omega
      · have hnx : ∀ ty, (Instr.next (.pointer (some ⟨K, 0, none⟩)) true ty).run Tryd.prog wr = _ := fun ty => Lib.run_next_end_at wr K s pos ty hit hps
        have hfin : acc = Ut.dec s.data.toList := by
          rw [← hdec.out, List.drop_of_length_le (by simp; omega), Ut.dec_nil, List.append_nil]
        have H5 := Lib.hid (And.intro hown hbel)
        have HF := Lib.hid hfin
        clear hown hbel hit hvd hdec hfin
        go_wp2_with fail
        go_ret2
        exact ⟨_, ret_vi (by rw [h2.out]), by rw [h1.out, ← HF.out]; exact H5.out.1, H5.out.2⟩
end Go.Proofs.YthhfmcikfdagiaaDoor

/-
  The document's own Count, Fits, Holds, Characters and Bytes over rows.
-/
namespace Go.Proofs.YthhfmcikfdagiaaDoor
open Go.RowKit

namespace Sp
end Sp
theorem RowG.cells {w : World} {g : Nat} {r : List (Int × Int)} (h : RowG w g r) (k : Nat) (hk : k < r.length) : w.cell? ⟨g, k * 2, none⟩ = some (.int .i64 r[k].1) ∧ w.cell? ⟨g, k * 2 + 1, none⟩ = some (.int .i64 r[k].2) := by
  have a := World.rowIs.cell h (i := k * 2) (by omega)
  have b := World.rowIs.cell h (i := k * 2 + 1) (by omega)
  rw [Sp.cellAt_lo r k hk] at a
  rw [Sp.cellAt_hi r k hk] at b
  exact ⟨a, b⟩
end Go.Proofs.YthhfmcikfdagiaaDoor

/-
  The document's own Holds, Characters and Bytes; the fixed answers.
-/
namespace Go.Proofs.YthhfmcikfdagiaaDoor
open Go.RowKit

theorem RowsO.form {w : World} {B : Nat} {v : Value} {gs : List Nat} {L : List (List (Int × Int))} (h : RowsO w B v gs L) : ∃ a cap, v = .slice a L.length cap ∧ L.length ≤ cap ∧ cap ≤ 9223372036854775807 ∧ (0 < L.length → ∃ g, a = some ⟨g, 0, none⟩ ∧ B ≤ g ∧ g < w.heap.size ∧
    ∀ j (h1 : j < gs.length) (h2 : j < L.length), w.cell? ⟨g, j, none⟩ = some (.slice (some ⟨gs[j], 0, none⟩) L[j].length L[j].length)) := by
  rcases h.own.2 with ⟨h1, h0⟩ | ⟨g, cap, cur, h1, hg, hh, hnc, hcp, hcs, htake⟩
  · exact ⟨none, 0, by rw [h1, h0], by omega, by omega, fun h => by omega⟩
  · subst h1
    have hown : w.ownsRow B 91 1 (.slice (some ⟨g, 0, none⟩) L.length cap) L.length (rowVs gs L) := h.own
    refine ⟨_, cap, rfl, hnc, by unfold maxLen at hcp; omega, fun _ => ⟨g, rfl, hg, (hown.lt g rfl).2, fun j a b => ?_⟩⟩
    rw [hown.cellAt j (by omega), rowVs_at j a b]
namespace Sp
end Sp
end Go.Proofs.YthhfmcikfdagiaaDoor

/-
  Lead between states that are not there; SpansNone.
-/
namespace Go.Proofs.YthhfmcikfdagiaaDoor
open Go.RowKit

theorem LoO.los {w : World} {B : Nat} {v : Value} {vals : List LoV} {L : List Au.Lo} (h : LoO w B v vals L) (F : Nat → Prop) (hF : ∀ g, B ≤ g → F g) : LoS F w v L := by
  have hl := h.each.len
  rcases h.own.2 with ⟨h1, h0⟩ | ⟨g, cap, cur, h1, hg, hh, hnc, hcp, hcs, htake⟩
  · exact ⟨none, 0, by rw [h1, h0], by omega, by omega, fun h => by omega⟩
  · subst h1
    have hown : w.ownsRow B 58 3 (.slice (some ⟨g, 0, none⟩) L.length cap) L.length (losV vals) := h.own
    refine ⟨_, cap, rfl, hnc, by unfold maxLen at hcp; omega, fun _ => ⟨g, 0, rfl, (hown.lt g rfl).2, hF g hg, fun j hj => ?_⟩⟩
    obtain ⟨a1, a2, a3⟩ := losV_at vals j (by omega)
    obtain ⟨e1, e2, e3⟩ := h.each.each j (by omega) hj
    rw [Nat.zero_add]
    refine ⟨?_, ⟨vals[j].2.1, ?_, e2.arcs F hF⟩, vals[j].2.2, ?_, e3.nums F hF⟩
    · rw [hown.cellAt _ (by omega), a1, e1]
    · rw [hown.cellAt _ (by omega), a2]
    · rw [hown.cellAt _ (by omega), a3]
/-- Is a number the place of one of n. -/
def inB (i : Int) (n : Nat) : Bool := decide (0 ≤ i ∧ i < n)
set_option maxHeartbeats 1000000 in
theorem isPlace_any5 (i : Int) (n : Nat) (w : World) : Calls Tryd.prog 45 #[.int .i64 i, .int .i64 (n : Int)] w fun e w' => e = .returned (.bool (inB i n)) ∧ w = w' := by
  by_cases h1 : 0 ≤ i
  · by_cases h2 : i < n
    · have hd : Hid (inB i n = true) := decide_eq_true ⟨h1, h2⟩
      go_enter Tryd.func45, Tryd.ntmps45
      go_wp2_with fail
      go_ret
      exact ⟨ret_bool hd.out.symm, rfl⟩
    · have hd : Hid (inB i n = false) := decide_eq_false fun h => h2 h.2
      go_enter Tryd.func45, Tryd.ntmps45
      go_wp2_with fail
      go_ret
      exact ⟨ret_bool hd.out.symm, rfl⟩
  · have hd : Hid (inB i n = false) := decide_eq_false fun h => h1 h.1
    go_enter Tryd.func45, Tryd.ntmps45
    go_wp2_with fail
    go_ret
    exact ⟨ret_bool hd.out.symm, rfl⟩
end Go.Proofs.YthhfmcikfdagiaaDoor

/-
  How many states a pattern's automaton has; what is made of it; which characters a pattern may have; no program is named here.
-/
namespace Go.Proofs.YthhfmcikfdagiaaDoor.Sp
open Go.Lib
open Au (Arc Lo Star May has)
end Go.Proofs.YthhfmcikfdagiaaDoor.Sp

namespace Go.Proofs.YthhfmcikfdagiaaDoor.Wl
open Go.Lib
open Au (Arc Lo Star May has)
open Sp (rows lead Led bs Path MP InRow word Part Shape FitsN PreN star_end nxt)

theorem sum_le (X : Nat) : ∀ (n : List Lo), (∀ x ∈ n, x.arcs.length ≤ X) → (n.map fun s => s.arcs.length).sum ≤ n.length * X
  | [], _ => by simp
  | s :: n, h => by
    have h1 := h s (by simp)
    have h2 := sum_le X n fun x hx => h x (by simp [hx])
    simp only [List.map_cons, List.sum_cons, List.length_cons]
    rw [Nat.succ_mul]
    omega
/-- May a character stand in a pattern? -/
def okC (marks : List UInt8) (c : Int) : Bool := Ut.letter c || marks.any fun b => decide (c = (b.toNat : Int))
def letE (l marks : List UInt8) : Int := if Ut.decE l = 0 then (if 16 < (Ut.decS l).length then 4 else if (Ut.decS l).length = 0 then 20 else if ((Ut.decS l).map Ut.fold).all (okC marks) = true then 0 else 20) else Ut.decE l
def letS (l marks : List UInt8) : List Int := if letE l marks = 0 then (Ut.decS l).map Ut.fold else []
theorem letE_ok {l marks : List UInt8} (h : letE l marks = 0) : validD l = true ∧ letS l marks = (Ut.dec l).map Ut.fold ∧ 1 ≤ (letS l marks).length ∧ (letS l marks).length ≤ 16 ∧ (∀ c ∈ letS l marks, okC marks c = true) := by
  have hs : letS l marks = (Ut.decS l).map Ut.fold := by unfold letS; rw [if_pos h]
  unfold letE at h
  split at h
  · rename_i h0
    split at h
    · cases h
    · split at h
      · cases h
      · split at h
        · rename_i h1 h2 h3
          have hv : validD l = true := by
            unfold Ut.decE at h0
            split at h0
            · assumption
            · cases h0
          refine ⟨hv, by rw [hs, Ut.decS_yes hv], by rw [hs, List.length_map]; omega, by rw [hs, List.length_map]; omega, fun c hc => ?_⟩
          rw [hs] at hc
          exact List.all_eq_true.1 h3 c hc
        · cases h
  · rename_i h0
    exact absurd h h0
theorem okC_nil {c : Int} (h : okC [] c = true) : Ut.letter c = true := by simpa [okC] using h
end Go.Proofs.YthhfmcikfdagiaaDoor.Wl

/-
  How many states a word's states are, and arcs of each; what is made of them; a word's letters; no program is named here.
-/
namespace Go.Proofs.YthhfmcikfdagiaaDoor.Lv
open Go.Lib
open Au (Arc Lo Star May has)
open Sp (rows lead leadBy addArc chainL Led bs Path MP InRow word Part Shape FitsN PreN)
open Wl (setF)

/-- States that are few. -/
structure Bd (L : List Lo) (m N X : Nat) : Prop where
  low : m ≤ L.length
  len : L.length ≤ N
  each : ∀ s ∈ L, s.arcs.length ≤ X ∧ s.free.length ≤ 2
theorem Bd.mono {L : List Lo} {m N X N' X' : Nat} (h : Bd L m N X) (hN : N ≤ N') (hX : X ≤ X') : Bd L m N' X' :=
  ⟨h.low, Nat.le_trans h.len hN, fun s hs => ⟨Nat.le_trans (h.each s hs).1 hX, (h.each s hs).2⟩⟩
theorem Bd.leadBy {L : List Lo} {m N X p q : Nat} {row : List (Int × Int)} (h : Bd L m N X) (hX : 1 ≤ X + 1) (hp : p < m) : Bd (leadBy q L p row) m (N + (row.length - 1)) (X + 1) := by
  have hp2 : p < L.length := Nat.lt_of_lt_of_le hp h.low
  refine ⟨by rw [Sp.leadBy_length _ _ _ _ hp2]; have := h.low; omega, by rw [Sp.leadBy_length _ _ _ _ hp2]; have := h.len; omega, fun s hs => ?_⟩
  cases row with
  | nil =>
    have := h.each s hs
    exact ⟨by omega, this.2⟩
  | cons r rs =>
    rw [Sp.leadBy_form q rs r L p hp2] at hs
    rcases List.mem_append.1 hs with hs | hs
    · obtain ⟨i, hi⟩ := List.mem_iff_getElem?.1 hs
      rw [Sp.addArc_at] at hi
      obtain ⟨s', h1, h2⟩ := Option.map_eq_some_iff.1 hi
      have h3 := h.each s' (List.mem_of_getElem? h1)
      split at h2
      · subst h2
        simp only [List.length_append, List.length_singleton]
        omega
      · subst h2
        omega
    · obtain ⟨i, hi⟩ := List.mem_iff_getElem?.1 hs
      have hlt := (List.getElem?_eq_some_iff.1 hi).1
      rw [Sp.chainL_length] at hlt
      rw [Sp.chainL_at q _ _ i hlt] at hi
      cases hi
      exact ⟨hX, Nat.zero_le _⟩
theorem Bd.lead {m p q : Nat} (hp : p < m) : ∀ (R : List (List (Int × Int))) {L : List Lo} {N X : Nat}, Bd L m N X → Bd (lead L p q R) m (N + (R.map fun r => r.length - 1).sum) (X + R.length)
  | [], _, _, _, h => h
  | row :: R, L, N, X, h => by
    have := Bd.lead (q := q) hp R (h.leadBy (q := q) (row := row) (by omega) hp)
    refine this.mono ?_ ?_
    · rw [List.map_cons, List.sum_cons]; omega
    · rw [List.length_cons]; omega
theorem Bd.setR {L : List Lo} {m N X : Nat} (h : Bd L m N X) (p : Nat) {f : List Int} (hf : f.length ≤ 2) : Bd (setR L p f) m N X := by
  unfold Lv.setR
  refine ⟨by rw [List.length_modify]; exact h.low, by rw [List.length_modify]; exact h.len, fun s hs => ?_⟩
  obtain ⟨i, hi⟩ := List.mem_iff_getElem?.1 hs
  rw [List.getElem?_modify] at hi
  obtain ⟨s', h1, h2⟩ := Option.map_eq_some_iff.1 hi
  have h3 := h.each s' (List.mem_of_getElem? h1)
  split at h2
  · subst h2
    exact ⟨h3.1, hf⟩
  · subst h2
    exact h3
theorem Bd.setF {L : List Lo} {m N X : Nat} (h : Bd L m N X) (p : Nat) : Bd (setF L p) m N X := by
  refine ⟨by rw [Wl.setF_length]; exact h.low, by rw [Wl.setF_length]; exact h.len, fun s hs => ?_⟩
  obtain ⟨i, hi⟩ := List.mem_iff_getElem?.1 hs
  rw [Wl.setF_at] at hi
  obtain ⟨s', h1, h2⟩ := Option.map_eq_some_iff.1 hi
  have h3 := h.each s' (List.mem_of_getElem? h1)
  split at h2
  · subst h2
    exact h3
  · subst h2
    exact h3
theorem one_sum (c : Int) : ((rows c c).map fun r => r.length - 1).sum ≤ 3 ∧ (rows c c).length ≤ 1 := by
  have h1 := Sp.rows_single c
  refine ⟨?_, h1⟩
  match h : rows c c with
  | [] => simp
  | [r] =>
    have := (Sp.rows_shape (lo := c) (hi := c) (row := r) (by rw [h]; simp)).len
    simp
    omega
  | _ :: _ :: _ => rw [h] at h1; simp at h1
theorem full_sum : ((rows 0 1114111).map fun r => r.length - 1).sum = 18 ∧ (rows 0 1114111).length = 9 := by
  rw [Sp.rows_full]
  decide
theorem bd_in1 {cs : List Int} {L : List Lo} {m N X r : Nat} (h : Bd L m N X) (hr : 2 * r < m / (cs.length + 1)) : ∀ k, k ≤ cs.length → Bd (in1 cs L r k) m (N + 3 * k) (X + k)
  | 0, _ => h
  | k + 1, hk => by
    have hm := Nat.div_mul_le_self m (cs.length + 1)
    have hp := pl_lt hr (show k ≤ cs.length by omega)
    have h1 := one_sum (cs.getD k 0)
    exact (Bd.lead (by omega) (rows (cs.getD k 0) (cs.getD k 0)) (bd_in1 h hr k (by omega))).mono (by omega) (by omega)
theorem bd_out1 {cs : List Int} {m : Nat} (hn : cs.length ≤ 16) : ∀ R, 2 * R ≤ m / (cs.length + 1) + 1 → Bd (out1 cs m R) m (m + 48 * R) (16 * R)
  | 0, _ => ⟨by simp [out1, Wl.blank], by simp [out1, Wl.blank], fun s hs => by
      rw [(List.mem_replicate.1 hs).2]
      exact ⟨Nat.le_refl _, Nat.zero_le _⟩⟩
  | R + 1, hR => (bd_in1 (r := R) (bd_out1 hn R (by omega)) (by omega) cs.length (Nat.le_refl _)).mono (by omega) (by omega)
theorem bd_in2 {n x : Nat} {L : List Lo} {m N X r : Nat} (h : Bd L m N X) (hr : 2 * r < m / (n + 1)) : ∀ k, x + k ≤ n + 1 → Bd (in2 n x L r k) m (N + 18 * k) (X + 9 * k)
  | 0, _ => h
  | k + 1, hk => by
    have hm := Nat.div_mul_le_self m (n + 1)
    have hp := pl_lt hr (show x + k ≤ n by omega)
    have h1 := full_sum
    exact (((Bd.lead (by omega) (rows 0 1114111) (bd_in2 h hr k (by omega))).setR _ (by simp)).setR _ (by simp)).mono (by omega) (by omega)
theorem bd_out2 {n x : Nat} {L : List Lo} {m N X : Nat} (h : Bd L m N X) (hn : n ≤ 16) (hx : x ≤ n) : ∀ R, 2 * R ≤ m / (n + 1) + 1 → Bd (out2 n x L R) m (N + 306 * R) (X + 153 * R)
  | 0, _ => h
  | R + 1, hR => (bd_in2 (x := x) (r := R) (bd_out2 h hn hx R (by omega)) (by omega) (n + 1 - x) (by omega)).mono (by omega) (by omega)
/-- Bounds of all that is met while a word's states are made. -/
theorem m_le {K n : Nat} (hK : K ≤ 2) (hn : n ≤ 16) : (2 * K + 1) * (n + 1) ≤ 85 ∧ (2 * K + 1) * (n + 1) / (n + 1) = 2 * K + 1 :=
  ⟨Nat.mul_le_mul (show 2 * K + 1 ≤ 5 by omega) (show n + 1 ≤ 17 by omega), Nat.mul_div_cancel _ (Nat.succ_pos _)⟩
theorem bd_row1 {cs : List Int} {K : Nat} (hn : cs.length ≤ 16) (hK : K ≤ 2) {r k : Nat} (hr : r ≤ K) (hk : k ≤ cs.length) : Bd (in1 cs (out1 cs ((2 * K + 1) * (cs.length + 1)) r) r k) ((2 * K + 1) * (cs.length + 1)) 229 48 := by
  obtain ⟨h1, h2⟩ := m_le hK hn
  exact (bd_in1 (bd_out1 hn r (by omega)) (by omega) k hk).mono (by omega) (by omega)
theorem bd_row2 {cs : List Int} {K x : Nat} (hn : cs.length ≤ 16) (hx : x ≤ cs.length) (hK : K ≤ 2) {r k : Nat} (hr : r < K) (hk : x + k ≤ cs.length + 1) : Bd (in2 cs.length x (out2 cs.length x (out1 cs ((2 * K + 1) * (cs.length + 1)) (K + 1)) r) r k) ((2 * K + 1) * (cs.length + 1)) 841 354 := by
  obtain ⟨h1, h2⟩ := m_le hK hn
  exact (bd_in2 (bd_out2 (bd_out1 hn (K + 1) (by omega)) hn hx r (by omega)) (by omega) k hk).mono (by omega) (by omega)
theorem bd_all {cs : List Int} {K x : Nat} (hn : cs.length ≤ 16) (hx : x ≤ cs.length) (hK : K ≤ 2) : Bd (out2 cs.length x (out1 cs ((2 * K + 1) * (cs.length + 1)) (K + 1)) K) ((2 * K + 1) * (cs.length + 1)) 841 354 := by
  obtain ⟨h1, h2⟩ := m_le hK hn
  exact (bd_out2 (bd_out1 hn (K + 1) (by omega)) hn hx K (by omega)).mono (by omega) (by omega)
theorem auto_bound {cs : List Int} {K x : Nat} (hn : cs.length ≤ 16) (hx : x ≤ cs.length) (hK : K ≤ 2) : (auto cs K x).length ≤ 841 ∧ ∀ s ∈ auto cs K x, s.arcs.length ≤ 354 := by
  have h := (bd_all hn hx hK).setF (pl cs.length (2 * K) cs.length)
  exact ⟨h.len, fun s hs => (h.each s hs).1⟩
theorem auto_rows {cs : List Int} {K x : Nat} (hn : cs.length ≤ 16) (hx : x ≤ cs.length) (hK : K ≤ 2) (S : List Bool) : (Au.rowsOf (auto cs K x) S).flatten.length ≤ 1099511627776 := by
  obtain ⟨h2, h3⟩ := auto_bound hn hx hK
  have h4 := Au.rows_sum (auto cs K x) S
  have h5 := Wl.sum_le 354 (auto cs K x) h3
  have h6 : (auto cs K x).length * 354 ≤ 841 * 354 := Nat.mul_le_mul_right _ h2
  omega
/-- The automaton of a word. -/
structure Out (cs : List Int) (K x : Nat) (d : List Au.St) : Prop where
  e : Au.tightE (auto cs K x) 20000 = 0
  l : Au.tightL (auto cs K x) 20000 = d
  fits : Au.Fits d
  takes : ∀ l : List UInt8, validD l = true → (Au.takesL d l = true ↔ within cs K x (Ut.dec l))
theorem auto_out {cs : List Int} {K x : Nat} (hw : ∀ c ∈ cs, Ut.whole c = true) (hx : x ≤ cs.length) (hK : K ≤ 2) (hn : cs.length ≤ 16) (h3 : ∀ c ∈ cs, (word c).length ≤ 3) : ∃ d, Out cs K x d := by
  obtain ⟨n0, E, st, F⟩ := auto_fz (cs := cs) (K := K) (x := x) hx
  obtain ⟨i, hi⟩ := F.few hw hx hK hn h3
  have hM := F.may
  have hd := Au.tight_some hi
  obtain ⟨te, tl⟩ := (Au.tight_outs (most := 20000) ((Au.may_true _).2 hM)).2 _ hd
  refine ⟨_, te, tl, Au.tight_fits hM (by decide) hd, fun l hv => ?_⟩
  obtain ⟨e1, e2⟩ := Ut.enc_dec l.length l (Nat.le_refl _) hv
  rw [Au.takesL_of (Au.tight_fits hM (by decide) hd), Au.tight_takes hM hd, ← F.takes hw hx e2]
  unfold Wl.words
  rw [e1]
/-- Letters are of three bytes at most. -/
theorem letter_top {c : Int} (h : Ut.letter c = true) : c ≤ 40959 := by
  simp [Ut.letter, Ut.among] at h
  omega
theorem letter_word {c : Int} (h : Ut.letter c = true) : Ut.whole c = true ∧ (word c).length ≤ 3 := by
  have hw := (Ut.letter_whole c h).1
  have ht := letter_top h
  refine ⟨hw, ?_⟩
  rw [Sp.word_z, List.length_map]
  rcases Ut.run_cases c hw with ⟨_, _, e⟩ | ⟨_, _, e⟩ | ⟨_, e⟩ | ⟨h1, h2, e⟩
  · rw [e]; simp
  · rw [e]; simp
  · rw [e]; simp
  · omega
/-- The automaton of a word's letters. -/
theorem word_out {l : List UInt8} (h : Wl.letE l [] = 0) {K x : Nat} (hx : x ≤ (Wl.letS l []).length) (hK : K ≤ 2) : ∃ d, Out (Wl.letS l []) K x d := by
  obtain ⟨_, _, _, h2, h3⟩ := Wl.letE_ok h
  exact auto_out (fun c hc => (letter_word (Wl.okC_nil (h3 c hc))).1) hx hK h2 fun c hc => (letter_word (Wl.okC_nil (h3 c hc))).2
end Go.Proofs.YthhfmcikfdagiaaDoor.Lv

/-
  How many letters stand ahead; characters, each folded, in new memory.
-/
namespace Go.Proofs.YthhfmcikfdagiaaDoor
open Go.RowKit

namespace Ut
/-- The first so many are folded. -/
def fFold (xs : List Int) (k : Nat) : Nat → Value := fun j => .int .i64 (if j < k then fold (xs.getD j 0) else 0)
theorem fFold_step (xs : List Int) (k : Nat) (hk : k < xs.length) (j : Nat) : (if j = k then Value.int .i64 (fold xs[k]) else fFold xs k j) = fFold xs (k + 1) j := by
  unfold fFold
  by_cases e : j = k
  · subst e
    rw [if_pos rfl, if_pos (by omega), List.getD_eq_getElem?_getD, List.getElem?_eq_getElem hk]
    rfl
  · rw [if_neg e]
    by_cases h : j < k
    · rw [if_pos h, if_pos (by omega)]
    · rw [if_neg h, if_neg (by omega)]
end Ut

set_option maxRecDepth 100000 in
set_option maxHeartbeats 1000000 in
theorem foldedOf_any (w : World) (v : Value) (xs : List Int) (hv : IntS w v xs) (hx : xs.length ≤ 17592186044416) :
    Calls Tryd.prog 29 #[v] w fun e w' => ∃ v', e = .returned v' ∧ OwnI w' w.heap.size v' (xs.map Ut.fold) ∧ Below w.heap.size w w' := by
  obtain ⟨a, cap, rfl, _, _, hv⟩ := hv
  have HV := Lib.hid hv
  clear hv
  obtain ⟨n, hn⟩ : ∃ n, n = xs.length := ⟨_, rfl⟩
  have HN := Lib.hid hn
  rw [← hn] at hx ⊢
  clear hn
  have hmk := run_make_row' (P := Tryd.prog) 22 3 (.int .i64 0) 8 Tryd.underlying22 Tryd.infoI rfl .i64 .i64 n (by omega) (by omega)
  go_enter Tryd.func29, Tryd.ntmps29
  go_wp2_with fail
  have HR : Hid ((w.alloc (.cells (madeCells #[.int .i64 0] n) 3)).rowIs w.heap.size 3 n (Ut.fFold xs 0)) := World.rowIs_made w (.int .i64 0) n 3
  have HB : Hid (Below w.heap.size w (w.alloc (.cells (madeCells #[.int .i64 0] n) 3))) := (Below.refl _ _).alloc (Nat.le_refl _) _
  generalize w.alloc (.cells (madeCells #[.int .i64 0] n) 3) = w1 at *
  clear hmk
  obtain ⟨B, hB⟩ : ∃ B, B = w.heap.size := ⟨_, rfl⟩
  have HBe := Lib.hid hB
  rw [← hB] at HR ⊢
  clear hB
  go_loopg [11] n (fun g i wx => ∃ k : Nat, k ≤ n ∧ g = n - k ∧ i = .int .i64 k ∧ Hid (wx.rowIs B 3 n (Ut.fFold xs k)) ∧ Below w.heap.size w wx)
  case atStart => exact ⟨0, Nat.zero_le _, rfl, rfl, HR.out, HB.out⟩
  case round =>
    obtain ⟨k, hk, rfl, rfl, hrow, hbel⟩ := hrel
    by_cases hkn : k < n
    · have i1 : (k : Int) < (n : Int) := by omega
      have kx : k < xs.length := by rw [← HN.out]; exact hkn
      obtain ⟨g, o, rfl, hg, hcu⟩ := HV.out (by omega)
      have c1 : wr.cell? ⟨g, o + k, none⟩ = some (.int .i64 xs[k]) := (hbel.cell (p := ⟨g, o + k, none⟩) hg).trans (hcu k kx)
      have c2 := hrow.out.cell hkn
      have f2 := hrow.out.frozen k
      have hF := Lib.hid (fold_any xs[k] wr)
      have hrow2 : Hid ((wr.setCell ⟨B, k, none⟩ (.int .i64 (Ut.fold xs[k]))).rowIs B 3 n (Ut.fFold xs (k + 1))) :=
        (hrow.out.set k _).congr fun j _ => Ut.fFold_step xs k kx j
      have hbel2 : Hid (Below w.heap.size w (wr.setCell ⟨B, k, none⟩ (.int .i64 (Ut.fold xs[k])))) := hbel.setCell (p := ⟨B, k, none⟩) (by show w.heap.size ≤ B; rw [HBe.out]; exact Nat.le_refl _) _
      generalize Ut.fold xs[k] = d at *
      generalize xs[k] = c at *
      clear hcu hrow hbel
      go_wp2_with fail
      refine hF.out.mono ?_
      rintro e w2 ⟨rfl, rfl⟩
      go_wp2_with fail
      go_roundg (n - (k + 1))
      case rel => exact ⟨k + 1, by omega, rfl, by go_num, hrow2, hbel2.out⟩
      case measure => omega
    · obtain rfl : k = n := by omega
      have i1 : ¬ (k : Int) < (k : Int) := by omega
      have hfin : Hid (OwnI wr w.heap.size (.slice (some ⟨B, 0, none⟩) k k) (xs.map Ut.fold)) := by
        obtain ⟨c, h1, h2, h3⟩ := hrow.out
        refine ⟨by simp [intsV5], .inr ⟨B, k, c, by rw [List.length_map, ← HN.out], by rw [HBe.out]; exact Nat.le_refl _, h1, by rw [List.length_map, ← HN.out]; exact Nat.le_refl _, by unfold maxLen; omega, by omega, ?_⟩⟩
        rw [List.length_map, ← HN.out, Nat.mul_one, List.take_of_length_le (by rw [Array.length_toList, h2]; exact Nat.le_refl _)]
        apply List.ext_getElem?
        intro j
        by_cases hj : j < k
        · have hjx : j < xs.length := by rw [← HN.out]; exact hj
          rw [Array.getElem?_toList, h3 j hj]
          simp [intsV5, Ut.fFold, hj, hjx]
        · rw [List.getElem?_eq_none (by rw [Array.length_toList, h2]; omega), List.getElem?_eq_none (by simp [intsV5]; rw [← HN.out]; omega)]
      have HBE := Lib.hid hbel
      clear hrow hbel
      go_wp2_with fail
      go_ret
      exact ⟨_, rfl, hfin.out, HBE.out⟩
end Go.Proofs.YthhfmcikfdagiaaDoor

/-
  What Folded answers, the program's and the document's own: all characters, each folded, in new memory, or the refusal.
-/
namespace Go.Proofs.YthhfmcikfdagiaaDoor
open Go.RowKit

/-- What Folded answers. -/
def FoldPost (w : World) (l : List UInt8) (e : Ending) (w' : World) : Prop :=
  ∃ v, e = .returned (.tuple #[v, .int .i64 (Ut.decE l)]) ∧ OwnI w' w.heap.size v ((Ut.decS l).map Ut.fold) ∧ Below w.heap.size w w'
theorem OwnI.base {w : World} {B C : Nat} {v : Value} {l : List Int} (h : OwnI w B v l) (hC : C ≤ B) : OwnI w C v l := by
  refine ⟨h.1, ?_⟩
  rcases h.2 with h1 | ⟨g, cap, cur, h1, hg, hr⟩
  · exact .inl h1
  · exact .inr ⟨g, cap, cur, h1, Nat.le_trans hC hg, hr⟩

set_option maxRecDepth 100000 in
set_option maxHeartbeats 2000000 in
theorem folded_any (w : World) (s : ByteArray) (hT : Tabs w) (hs : s.size ≤ 17592186044415) : Calls Tryd.prog 15 #[.string s] w (FoldPost w s.data.toList) := by
  have hd := decode_any w s hT (by omega)
  have hln := Ut.decS_length s.data.toList
  rw [show s.data.toList.length = s.size from by simp] at hln
  have hno : ¬ Ut.decE s.data.toList = 0 → Ut.decS s.data.toList = [] := by
    intro h
    cases hv : Lib.validD s.data.toList
    · exact Ut.decS_no hv
    · exact absurd (Ut.decE_yes hv) h
  unfold DecPost at hd
  unfold FoldPost
  generalize Ut.decE s.data.toList = E at *
  generalize Ut.decS s.data.toList = L at *
  have HD := Lib.hid hd
  clear hd hT
  by_cases h0 : E = 0
  · subst h0
    clear hno
    go_enter Tryd.func15, Tryd.ntmps15
    go_wp2_with fail
    refine HD.out.mono ?_
    rintro e w1 ⟨v, rfl, hown, hb⟩
    have hF := Lib.hid (foldedOf_any w1 v L (hown.ints (by omega)) (by omega))
    have HB := Lib.hid hb
    clear hown hb
    go_wp2_with fail
    refine hF.out.mono ?_
    rintro e w2 ⟨v2, rfl, hown2, hb2⟩
    have HO2 : Hid (OwnI w2 w.heap.size v2 (L.map Ut.fold)) := hown2.base HB.out.size
    have HB2 : Hid (Below w.heap.size w w2) := HB.out.trans (hb2.mono HB.out.size)
    clear hown2 hb2
    go_wp2_with fail
    go_ret2
    exact ⟨_, rfl, HO2.out, HB2.out⟩
  · have h1 : (E != 0) = true := by simpa using h0
    have HN := Lib.hid (hno h0)
    clear hno
    go_enter Tryd.func15, Tryd.ntmps15
    go_wp2_with fail
    refine HD.out.mono ?_
    rintro e w1 ⟨v, rfl, _, hb⟩
    have HB := Lib.hid hb
    clear hb
    go_wp2_with fail
    go_ret2
    exact ⟨_, rfl, by rw [HN.out]; exact World.ownsRow_nil _ _ _ _, HB.out⟩

end Go.Proofs.YthhfmcikfdagiaaDoor

/-
  What the small calls of package wild answer: marks, how many characters aren't stars, whether too much stands behind the first star, for which characters one stands.
-/
namespace Go.Proofs.YthhfmcikfdagiaaDoor
open Go.RowKit

theorem index_iff (l : List UInt8) (c : UInt8) : 0 ≤ Lib.indexByte l c ↔ c ∈ l := by
  induction l with
  | nil => simp [Lib.indexByte]
  | cons b l ih =>
    have h1 := Lib.indexByte_ge l c
    unfold Lib.indexByte
    by_cases h : b = c
    · simp [h]
    · have e1 : (b == c) = false := by simpa using h
      rw [e1]
      by_cases h2 : Lib.indexByte l c = -1
      · have : ¬ c ∈ l := fun hc => by have := ih.2 hc; omega
        simp [h2, this, Ne.symm h]
      · have e2 : (Lib.indexByte l c == -1) = false := by simpa using h2
        have : c ∈ l := ih.1 (by omega)
        rw [e2]
        simp only [Bool.false_eq_true, if_false]
        exact ⟨fun _ => by simp [this], fun _ => by omega⟩
namespace Wl
/-- Is a character one of the bytes? -/
def mark (m : List UInt8) (c : Int) : Bool := m.any fun b => decide (c = (b.toNat : Int))
theorem okC_eq (m : List UInt8) (c : Int) : okC m c = (Ut.letter c || mark m c) := rfl
theorem mark_index {m : List UInt8} {c : Int} (h0 : 0 ≤ c) (h1 : c ≤ 255) : mark m c = decide (0 ≤ Lib.indexByte m c.toNat.toUInt8) := by
  rw [Bool.eq_iff_iff, decide_eq_true_iff, index_iff]
  unfold mark
  rw [List.any_eq_true]
  have hb : ((c.toNat.toUInt8).toNat : Int) = c := Ut.byteI c h0 (by omega)
  constructor
  · rintro ⟨b, hb1, hb2⟩
    have hb2 : c = (b.toNat : Int) := of_decide_eq_true hb2
    have : b = c.toNat.toUInt8 := by
      rw [hb2]
      simp
    rw [← this]
    exact hb1
  · intro h
    exact ⟨_, h, decide_eq_true hb.symm⟩
theorem mark_far {m : List UInt8} {c : Int} (h : 255 < c) : mark m c = false := by
  unfold mark
  rw [List.any_eq_false]
  intro b _
  have := b.toNat_lt
  simp
  omega
end Wl

set_option maxRecDepth 100000 in
set_option maxHeartbeats 1000000 in
theorem isMark_any (c : Int) (m : ByteArray) (h0 : 0 ≤ c) (w : World) :
    Calls Tryd.prog 17 #[.int .i64 c, .string m] w fun e w' => e = .returned (.bool (Wl.mark m.data.toList c)) ∧ w = w' := by
  by_cases h1 : c ≤ 255
  · have hx : IntKind.u8.wrap c = c := by simp [IntKind.wrap, IntKind.bits, IntKind.signed]; omega
    have hm := Wl.mark_index (m := m.data.toList) h0 h1
    have HS := Lib.hid (fun w => Tryd.strings_IndexByte m c w)
    rw [hm]
    generalize Lib.indexByte m.data.toList c.toNat.toUInt8 = x at *
    clear hm
    go_enter Tryd.func17, Tryd.ntmps17
    go_wp2_with fail
    refine (HS.out w).mono ?_
    rintro e w' ⟨rfl, rfl⟩
    by_cases h2 : 0 ≤ x
    · have hd : Hid (decide (0 ≤ x) = true) := decide_eq_true h2
      go_wp2_with fail
      go_ret
      exact ⟨ret_bool hd.out.symm, rfl⟩
    · have hd : Hid (decide (0 ≤ x) = false) := decide_eq_false h2
      go_wp2_with fail
      go_ret
      exact ⟨rfl, rfl⟩
  · have hd := Lib.hid (Wl.mark_far (m := m.data.toList) (by omega : 255 < c))
    go_enter Tryd.func17, Tryd.ntmps17
    go_wp2_with fail
    go_ret
    exact ⟨ret_bool hd.out.symm, rfl⟩

namespace Wl
end Wl
end Go.Proofs.YthhfmcikfdagiaaDoor
