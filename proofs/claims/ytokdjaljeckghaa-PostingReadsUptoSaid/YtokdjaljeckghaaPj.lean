/-
  The three lists of postings, as the program makes them.
-/
import Derived.Test.YtokdjaljeckghaaPi
import Derived.Laws.Rows
namespace Go.Proofs.Ytokdjaljeckghaa
open Go.RowKit
theorem enters_deltas : ∀ args w, (callFunc 40 args).run Try.prog w = .ok (.enter 40 args) w := fun args w => enters_of Try.func40 (by kernel_rfl) rfl args w
def cntsI (d : List Pt.Po) : List Int := (Pt.cnts d).map Int.ofNat
theorem cntsI_snoc (d : List Pt.Po) (p : Pt.Po) : cntsI (d ++ [p]) = cntsI d ++ [(p.ats.length : Int)] := by unfold cntsI Pt.cnts; simp
theorem plcs_snoc (d : List Pt.Po) (p : Pt.Po) : Pt.plcs (d ++ [p]) = Pt.plcs d ++ dl 0 p.ats := by unfold Pt.plcs; simp
theorem plcs_take_le (d : List Pt.Po) (k : Nat) : (Pt.plcs (d.take k)).length ≤ (Pt.plcs d).length := by
  conv => rhs; rw [← List.take_append_drop k d]
  unfold Pt.plcs
  rw [List.flatMap_append, List.length_append]
  omega
theorem OwnI.form {w : World} {B : Nat} {v : Value} {l : List Int} (h : OwnI w B v l) : ∃ a cap, v = .slice a l.length cap := by
  obtain ⟨_, a, cap, h1, _⟩ := h.opened
  exact ⟨a, cap, h1⟩
theorem deltas_call (w : World) (v : Value) (l : List Int) (h : IntS w v l) (hn : l.length ≤ 1073741824) (m N : Nat) (hm : m = l.length) (hN : w.heap.size = N) :
    Calls Try.prog 40 #[v] w fun e w' => ∃ u, e = .returned u ∧ (u = .slice (some ⟨N, 0, none⟩) m m ∧ IntS w' u (dl 0 l) ∧ RowI w' N m (fun j => (dl 0 l).getD j 0) ∧ Below w.heap.size w w') := by
  subst hN
  refine (deltas_any w v l h hn).mono ?_
  rintro e w' ⟨rfl, hR, hB⟩
  rw [dl_length, ← hm] at hR
  rw [dl_length, ← hm]
  exact ⟨_, rfl, rfl, RowI.ints hR (by rw [dl_length, hm]) (by omega), hR, hB⟩
theorem po_box {w : World} {p : Nat} {x : Int} {v : Value} (h : w.heap[p]? = some (.cells #[.int .i64 x, v] 40 (0, 0))) : w.cell? ⟨p, 0, none⟩ = some (.int .i64 x) ∧ w.cell? ⟨p, 1, none⟩ = some v := ⟨by simp [World.cell?, h], by simp [World.cell?, h]⟩
theorem box_at {w : World} {b : Nat} {va vb vc : Value} (h : w.heap[b]? = some (.cells #[va, vb, vc] 58 (0, 0))) : w.cell? ⟨b, 0, none⟩ = some va ∧ w.cell? ⟨b, 1, none⟩ = some vb ∧ w.cell? ⟨b, 2, none⟩ = some vc ∧ ∀ j, w.frozen? ⟨b, j, none⟩ = false :=
  ⟨by simp [World.cell?, h], by simp [World.cell?, h], by simp [World.cell?, h], fun j => by simp [World.frozen?, h]⟩
theorem one_int' (w : World) (N : Nat) (hN : N = w.heap.size) (x : Int) : IntF (fun _ => True) (w.alloc (.cells #[.int .i64 x] 3)) (.slice (some ⟨N, 0, none⟩) 1 1) [x] := by
  subst hN
  exact one_int w x
theorem blk_lt {w : World} {k : Nat} {o : Obj} (h : w.heap[k]? = some o) : k < w.heap.size := (Array.getElem?_eq_some_iff.1 h).1
/-- A block of another kind than numbers stays when a list of numbers grows and lies in the box. -/
theorem past_list {w w' : World} {B b j q : Nat} {v v' : Value} {l : List Int} {cs : Array Value} {t : TypeId} (h : OwnI w B v l) (hm : Moved w w' v v') (hq : w.heap[q]? = some (.cells cs t (0, 0))) (ht : 3 ≠ t) (hne : q ≠ b) :
    (w'.setCell ⟨b, j, none⟩ v').heap[q]? = some (.cells cs t (0, 0)) := by
  rw [heap_other _ _ _ _ _ hne, hm.1 q (blk_lt hq) (h.far hq ht)]
  exact hq
set_option maxRecDepth 100000 in
set_option maxHeartbeats 4000000 in
theorem listsOf_any (w : World) (F : Nat → Prop) (v : Value) (d : List Pt.Po) (h : PoS F w v d) (hn1 : d.length ≤ 1073741824) (hn2 : (Pt.plcs d).length ≤ 1073741824) :
    Calls Try.prog 25 #[v] w fun e w' => ∃ va vb vc, e = .returned (.agg #[va, vb, vc]) ∧ OwnI w' w.heap.size va (Pt.docs d) ∧ OwnI w' w.heap.size vb (cntsI d) ∧ OwnI w' w.heap.size vc (Pt.plcs d) ∧ Below w.heap.size w w' := by
  obtain ⟨a, cap, rfl, h1, h2, hv⟩ := h
  obtain ⟨n, hnz⟩ : ∃ n, n = d.length := ⟨_, rfl⟩
  have HU := Lib.hid hv
  have HN := Lib.hid hnz
  have H2 := Lib.hid hn2
  rw [← hnz] at h1 hn1 ⊢
  clear hv hnz hn2
  obtain ⟨w1, hw1⟩ : ∃ w1, w1 = (w.alloc (.cells #[.slice none 0 0, .slice none 0 0, .slice none 0 0] 58)).alloc (.cells #[.slice none 0 0, .slice none 0 0, .slice none 0 0] 58) := ⟨_, rfl⟩
  obtain ⟨b, hb⟩ : ∃ b, b = w.heap.size + 1 := ⟨_, rfl⟩
  have hB1 : Hid (Below w.heap.size w w1) := by show Below _ _ _; rw [hw1]; exact ((Below.refl _ _).alloc (Nat.le_refl _) _).alloc (by simp) _
  have hT1 : Hid (Tri w1 w.heap.size b (.slice none 0 0) (.slice none 0 0) (.slice none 0 0) ([].map Pt.Po.doc) (cntsI []) (Pt.plcs [])) := by
    refine ⟨?_, OwnI.nil _ _, OwnI.nil _ _, OwnI.nil _ _, fun g hg => ?_, fun g hg => ?_, fun g hg => ?_⟩
    · have q : (w.alloc (.cells #[.slice none 0 0, .slice none 0 0, .slice none 0 0] 58)).heap.size = w.heap.size + 1 := by simp
      rw [hw1, hb, ← q]
      exact Go.Deep.blk_alloc_new _ _
    all_goals cases hg
  have HE := Lib.hid enters_deltas
  go_enter Try.func25, Try.ntmps25
  go_wp2_with fail
  rw [← hw1, ← hb]
  have HW : Hid (b = w.heap.size + 1 ∧ b < w1.heap.size) := ⟨hb, hT1.out.lt⟩
  have HR : Hid (w1.heap[w.heap.size]? = some (.cells #[.slice none 0 0, .slice none 0 0, .slice none 0 0] 58 (0, 0))) := by
    show _ = _
    rw [hw1, Go.Deep.blk_alloc_lt _ _ _ (by simp)]
    exact Go.Deep.blk_alloc_new _ _
  clear hw1 hb
  go_loopg [8] n (fun g i wx => ∃ (k : Nat) (va vb vc : Value), k ≤ n ∧ g = n - k ∧ i = .int .i64 k ∧ Tri wx w.heap.size b va vb vc ((d.take k).map Pt.Po.doc) (cntsI (d.take k)) (Pt.plcs (d.take k)) ∧ Below w.heap.size w wx ∧ wx.heap[w.heap.size]? = some (.cells #[.slice none 0 0, .slice none 0 0, .slice none 0 0] 58 (0, 0)))
  case atStart => exact ⟨0, _, _, _, Nat.zero_le _, rfl, rfl, hT1.out, hB1.out, HR.out⟩
  case round =>
    clear hT1 hB1 HR
    obtain ⟨k, va, vb, vc, hk, rfl, rfl, hT, hbel, hR⟩ := hrel
    have HBE := Lib.hid hbel
    have HT := Lib.hid hT
    have HR := Lib.hid hR
    have hB0 := hbel.size
    clear hbel hT hR
    by_cases hkn : k < n
    · have i2 : (k : Int) < (n : Int) := by omega
      have kx : k < d.length := by rw [← HN.out]; exact hkn
      obtain ⟨g, o, rfl, hg, _, hcu⟩ := HU.out (by omega)
      obtain ⟨a1, vat, a2, a3⟩ := hcu k kx
      have c1 := (HBE.out.cell (p := ⟨g, o + k * 2, none⟩) hg).trans a1
      have c2 := (HBE.out.cell (p := ⟨g, o + k * 2 + 1, none⟩) hg).trans a2
      have A3 := Lib.hid a3
      have hS : Hid ((d.take (k + 1)).map Pt.Po.doc = (d.take k).map Pt.Po.doc ++ [d[k].doc] ∧ cntsI (d.take (k + 1)) = cntsI (d.take k) ++ [(d[k].ats.length : Int)] ∧ Pt.plcs (d.take (k + 1)) = Pt.plcs (d.take k) ++ dl 0 d[k].ats) := by
        rw [List.take_succ_eq_append_getElem kx, cntsI_snoc, plcs_snoc, List.map_append]
        exact ⟨rfl, rfl, rfl⟩
      have hL : Hid (((d.take k).map Pt.Po.doc).length + 1 ≤ 17179869184 ∧ (cntsI (d.take k)).length + 1 ≤ 17179869184 ∧ (Pt.plcs (d.take k)).length + (dl 0 d[k].ats).length ≤ 17179869184 ∧ d[k].ats.length ≤ 1073741824) := by
        have e1 := plcs_take_le d (k + 1)
        have e2 := H2.out
        rw [hS.out.2.2, List.length_append] at e1
        rw [dl_length] at e1 ⊢
        refine ⟨?_, ?_, by omega, by omega⟩
        · rw [List.length_map, List.length_take]; omega
        · unfold cntsI Pt.cnts; rw [List.length_map, List.length_map, List.length_take]; omega
      clear hcu a1 a2 a3
      generalize d[k].ats = l at *
      generalize d[k].doc = x at *
      generalize (d.take k).map Pt.Po.doc = LA at *
      generalize cntsI (d.take k) = LB at *
      generalize Pt.plcs (d.take k) = LC at *
      obtain ⟨ab, cab, rfl, q1, q2, q3⟩ := id A3.out
      obtain ⟨m, hm⟩ : ∃ m, m = l.length := ⟨_, rfl⟩
      have HM := Lib.hid hm
      rw [← hm] at c2 q1 A3 hS hL
      clear hm q3
      have T2 := Lib.hid (HT.out.alloc (.cells #[.int .i64 x, .slice ab m cab] 40))
      have P2 : Hid ((wr.alloc (.cells #[.int .i64 x, .slice ab m cab] 40)).heap[wr.heap.size]? = some (.cells #[.int .i64 x, .slice ab m cab] 40 (0, 0))) := Go.Deep.blk_alloc_new _ _
      have R2 : Hid ((wr.alloc (.cells #[.int .i64 x, .slice ab m cab] 40)).heap[w.heap.size]? = some (.cells #[.slice none 0 0, .slice none 0 0, .slice none 0 0] 58 (0, 0))) := (Go.Deep.blk_alloc_lt _ _ _ (blk_lt HR.out)).trans HR.out
      have B2 := Lib.hid (HBE.out.alloc HBE.out.size (.cells #[.int .i64 x, .slice ab m cab] 40))
      have HPB : Hid (wr.heap.size ≠ b ∧ w.heap.size ≠ b ∧ w.heap.size ≤ b) := by
        have e1 := HT.out.lt
        have e2 := HW.out.1
        exact ⟨by omega, by omega, by omega⟩
      obtain ⟨f1, f2, f3, f4⟩ := T2.out.cells
      obtain ⟨f5, f6⟩ := po_box P2.out
      clear HT HR HBE
      go_wp2_with (first
        | (at_builtin; refine wpList_appendM (F := fun _ => True) rfl _ _ rfl rfl w.heap.size (Nat.le_trans B2.out.size (by simp)) va (.slice (some ⟨wr.heap.size + 1, 0, none⟩) 1 1) LA [x] rfl rfl (T2.out.oa.alloc _) (one_int' _ _ (by simp) x) hL.out.1 ?_; intro v5 w5 hO5 hB5 hM5; obtain ⟨a5, c5, hv5⟩ := hO5.form; obtain ⟨n5, hn5⟩ : ∃ n5, n5 = (LA ++ [x]).length := ⟨_, rfl⟩; rw [← hn5] at hv5; clear hn5; subst hv5; have M5 := hM5.pre; have T3 := Lib.hid (T2.out.seta hO5 M5); obtain ⟨g1, _, _, g4⟩ := box_at ((M5.1 b T2.out.lt (T2.out.oa.far T2.out.box (by decide))).trans T2.out.box); have P3 := Lib.hid (past_list (b := b) (j := 0) T2.out.oa M5 P2.out (by decide) HPB.out.1); have R3 := Lib.hid (past_list (b := b) (j := 0) T2.out.oa M5 R2.out (by decide) HPB.out.2.1); obtain ⟨y1, y2, y3, y4⟩ := T3.out.cells; obtain ⟨y5, y6⟩ := po_box P3.out; have B3 := Lib.hid (((B2.out.alloc B2.out.size _).trans hB5).setCell (p := ⟨b, 0, none⟩) HPB.out.2.2 (.slice a5 n5 c5)); clear hO5 hB5 hM5 M5 f1 f2 f3 f4 f5 f6)
        | (at_builtin; refine wpList_appendM (F := fun _ => True) rfl _ _ rfl rfl w.heap.size (Nat.le_trans B3.out.size (by simp)) vb (.slice (some ⟨w5.heap.size, 0, none⟩) 1 1) LB [(m : Int)] rfl rfl (T3.out.ob.alloc _) (one_int' _ _ (by simp) _) hL.out.2.1 ?_; intro v6 w6 hO6 hB6 hM6; obtain ⟨a6, c6, hv6⟩ := hO6.form; obtain ⟨n6, hn6⟩ : ∃ n6, n6 = (LB ++ [(m : Int)]).length := ⟨_, rfl⟩; rw [← hn6] at hv6; clear hn6; subst hv6; have M6 := hM6.pre; have T4 := Lib.hid (T3.out.setb hO6 M6); obtain ⟨_, k2, _, k4⟩ := box_at ((M6.1 b T3.out.lt (T3.out.ob.far T3.out.box (by decide))).trans T3.out.box); have P4 := Lib.hid (past_list (b := b) (j := 1) T3.out.ob M6 P3.out (by decide) HPB.out.1); have R4 := Lib.hid (past_list (b := b) (j := 1) T3.out.ob M6 R3.out (by decide) HPB.out.2.1); have T4d : Hid (Tri (w6.setCell ⟨b, 1, none⟩ (.slice a6 n6 c6)).drew w.heap.size b (.slice a5 n5 c5) (.slice a6 n6 c6) vc (LA ++ [x]) (LB ++ [(m : Int)]) LC) := T4.out.keep fun _ _ => rfl; have P4d : Hid ((w6.setCell ⟨b, 1, none⟩ (.slice a6 n6 c6)).drew.heap[wr.heap.size]? = some (.cells #[.int .i64 x, .slice ab m cab] 40 (0, 0))) := P4.out; obtain ⟨l1, l2, l3, l4⟩ := T4d.out.cells; obtain ⟨l5, l6⟩ := po_box P4d.out; have B4 := Lib.hid (((B3.out.alloc B3.out.size _).trans hB6).setCell (p := ⟨b, 1, none⟩) HPB.out.2.2 (.slice a6 n6 c6)); clear hO6 hB6 hM6 M6 y1 y2 y3 y4 y5 y6))
      have hDl := Lib.hid (deltas_call (w6.setCell ⟨b, 1, none⟩ (.slice a6 n6 c6)).drew (.slice ab m cab) l ((A3.out.below B4.out.drew).ints) (by rw [← HM.out]; exact hL.out.2.2.2) m w6.heap.size HM.out (by simp [World.drew, World.setCell]))
      go_region_law (first
        | (refine step_call _ rfl 40 _ _ [.slice ab m cab] rfl (by rfl) HE.out hDl.out ?_; rintro v7 w7 ⟨rfl, hI7, _, hB7⟩; have T5 := Lib.hid (T4d.out.keep fun q hq => hB7.block q hq); have R5 : Hid (w7.heap[w.heap.size]? = some (.cells #[.slice none 0 0, .slice none 0 0, .slice none 0 0] 58 (0, 0))) := (hB7.block _ (blk_lt R4.out)).trans R4.out; have B5 := Lib.hid (B4.out.drew.trans (hB7.mono B4.out.drew.size)); obtain ⟨z1, z2, z3, z4⟩ := T5.out.cells; have I7 := Lib.hid hI7; clear hI7 hB7)
        | (refine step_appendM (F := fun _ => True) _ rfl _ _ rfl rfl w.heap.size B5.out.size vc (.slice (some ⟨w6.heap.size, 0, none⟩) m m) LC (dl 0 l) (by rfl) (by rfl) T5.out.oc I7.out.intF hL.out.2.2.1 ?_; intro v8 w8 hO8 hB8 hM8; obtain ⟨a8, c8, hv8⟩ := hO8.form; obtain ⟨n8, hn8⟩ : ∃ n8, n8 = (LC ++ dl 0 l).length := ⟨_, rfl⟩; rw [← hn8] at hv8; clear hn8; subst hv8; have T6 := Lib.hid (T5.out.setc hO8 hM8); obtain ⟨_, _, x3, x4⟩ := box_at ((hM8.1 b T5.out.lt (T5.out.oc.far T5.out.box (by decide))).trans T5.out.box); have R6 := Lib.hid (past_list (b := b) (j := 2) T5.out.oc hM8 R5.out (by decide) HPB.out.2.1); have B6 := Lib.hid ((B5.out.trans hB8).setCell (p := ⟨b, 2, none⟩) HPB.out.2.2 (.slice a8 n8 c8)); clear hO8 hB8 hM8))
      all_goals
        rw [← hS.out.1, ← hS.out.2.1, ← hS.out.2.2] at T6
        go_wp2_with fail
        go_roundg (n - (k + 1))
        case rel => exact ⟨k + 1, _, _, _, by omega, rfl, by go_num, T6.out, B6.out, R6.out⟩
        case measure => omega
    · obtain rfl : k = n := by omega
      have hd : d.take k = d := List.take_of_length_le (by rw [← HN.out]; exact Nat.le_refl _)
      have hT2 := HT.out
      rw [hd] at hT2
      have T2 := Lib.hid hT2
      have hdl : Hid ((d.map Pt.Po.doc).length ≤ 1073741824 ∧ k = (d.map Pt.Po.doc).length) := by rw [List.length_map, ← HN.out]; exact ⟨hn1, rfl⟩
      have HPB : Hid (w.heap.size ≠ b ∧ w.heap.size ≤ b ∧ w.heap.size < wr.heap.size) := by
        have e1 := HT.out.lt
        have e2 := HW.out.1
        exact ⟨by omega, by omega, by omega⟩
      clear hd HT hT2
      obtain ⟨ab, cab, hvb⟩ := T2.out.ob.form
      obtain ⟨ac, cac, hvc⟩ := T2.out.oc.form
      obtain ⟨nb, hnb⟩ : ∃ nb, nb = (cntsI d).length := ⟨_, rfl⟩
      obtain ⟨nc, hnc⟩ : ∃ nc, nc = (Pt.plcs d).length := ⟨_, rfl⟩
      rw [← hnb] at hvb
      rw [← hnc] at hvc
      clear hnb hnc
      subst hvb hvc
      obtain ⟨f1, f2, f3, f4⟩ := T2.out.cells
      have hDl := Lib.hid (deltas_call wr va (d.map Pt.Po.doc) (T2.out.oa.intF.ints) hdl.out.1 k wr.heap.size hdl.out.2 rfl)
      go_wp2_with (go_at_call 40; refine hDl.out.mono ?_; rintro e1 w7 ⟨_, rfl, rfl, hI7, hR7, hB7⟩; have X7 := Lib.hid hR7; have B7 := Lib.hid (HBE.out.trans (hB7.mono HBE.out.size)); have T5 := Lib.hid (T2.out.keep fun q hq => hB7.block q hq); have R5 : Hid (w7.heap[w.heap.size]? = some (.cells #[.slice none 0 0, .slice none 0 0, .slice none 0 0] 58 (0, 0))) := (hB7.block _ (blk_lt HR.out)).trans HR.out; obtain ⟨z1, z2, z3, z4⟩ := T5.out.cells; have Q0 : Hid ((w7.setCell ⟨b, 0, none⟩ (.slice (some ⟨wr.heap.size, 0, none⟩) k k)).heap[b]? = some (.cells #[.slice (some ⟨wr.heap.size, 0, none⟩) k k, .slice ab nb cab, .slice ac nc cac] 58 (0, 0))) := heap_set _ _ _ _ _ _ _ T5.out.box; have Q1 : Hid ((w7.setCell ⟨b, 0, none⟩ (.slice (some ⟨wr.heap.size, 0, none⟩) k k)).heap[w.heap.size]? = some (.cells #[.slice none 0 0, .slice none 0 0, .slice none 0 0] 58 (0, 0))) := (heap_other _ _ _ _ _ HPB.out.1).trans R5.out; obtain ⟨t1, t2, t3, t4⟩ := box_at Q0.out; obtain ⟨s1, s2, s3, s4⟩ := box_at Q1.out; clear hI7 hR7 hB7)
      have Q2 : Hid (((((w7.setCell ⟨b, 0, none⟩ (.slice (some ⟨wr.heap.size, 0, none⟩) k k)).setCell ⟨w.heap.size, 0, none⟩ (.slice (some ⟨wr.heap.size, 0, none⟩) k k)).setCell ⟨w.heap.size, 1, none⟩ (.slice ab nb cab)).setCell ⟨w.heap.size, 2, none⟩ (.slice ac nc cac)).heap[w.heap.size]? = some (.cells #[(.slice (some ⟨wr.heap.size, 0, none⟩) k k), .slice ab nb cab, .slice ac nc cac] 58 (0, 0))) := heap_set _ _ _ _ _ _ _ (heap_set _ _ _ _ _ _ _ (heap_set _ _ _ _ _ _ _ Q1.out))
      refine bodyPost_ret (results_cell_row rfl _ _ w.heap.size 58 _ (0, 0) _ rfl Q2.out Try.underlying58 rfl (by kernel_rfl)) rfl ?_
      have far : ∀ q, q ≠ b → q ≠ w.heap.size → ((((w7.setCell ⟨b, 0, none⟩ (.slice (some ⟨wr.heap.size, 0, none⟩) k k)).setCell ⟨w.heap.size, 0, none⟩ (.slice (some ⟨wr.heap.size, 0, none⟩) k k)).setCell ⟨w.heap.size, 1, none⟩ (.slice ab nb cab)).setCell ⟨w.heap.size, 2, none⟩ (.slice ac nc cac)).heap[q]? = w7.heap[q]? := fun q e1 e2 => by
        rw [heap_other _ _ _ _ _ e2, heap_other _ _ _ _ _ e2, heap_other _ _ _ _ _ e2, heap_other _ _ _ _ _ e1]
      refine ⟨_, _, _, rfl, ?_, ?_, ?_, ?_⟩
      · have hlt := T2.out.lt
        exact RowI.own (World.rowIs.of_block X7.out (far _ (by omega) (by have := HPB.out.2.2; omega))) (by unfold Pt.docs; rw [dl_length]; exact hdl.out.2.symm) (Nat.le_of_lt HPB.out.2.2) (by omega)
      · exact (T5.out.ob.keepB fun q hq => far q (fun e => T5.out.ob.far T5.out.box (by decide) (e ▸ hq)) (fun e => T5.out.ob.far R5.out (by decide) (e ▸ hq)))
      · exact (T5.out.oc.keepB fun q hq => far q (fun e => T5.out.oc.far T5.out.box (by decide) (e ▸ hq)) (fun e => T5.out.oc.far R5.out (by decide) (e ▸ hq)))
      · exact (((B7.out.setCell (p := ⟨b, 0, none⟩) HPB.out.2.1 _).setCell (p := ⟨w.heap.size, 0, none⟩) (Nat.le_refl _) _).setCell (p := ⟨w.heap.size, 1, none⟩) (Nat.le_refl _) _).setCell (p := ⟨w.heap.size, 2, none⟩) (Nat.le_refl _) _
end Go.Proofs.Ytokdjaljeckghaa
