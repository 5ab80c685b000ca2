/-
  Lemmas on automata, the program's calls and the given ones, put together of 19 texts (part 4).
-/
import Derived.Test.YtdjiknakbldggaaQ3
import Derived.Laws.StructEq
import Derived.Lib.SliceRun
import Derived.Laws.AppendOwnNone
import Derived.Test.YtdjiknakbldggaaRows
import Derived.ProofKit
import Derived.OpenShut
import Derived.ShutString
import Derived.ChangeOld
import Derived.SizedLaws
import Derived.JoinedCond
import Derived.SliceStrings
import Derived.Deep.SlicePairs
import Derived.Deep.Strs
/-
  What stands behind a node: the numbers that Open keeps.
-/
namespace Go.Proofs.Ytdjiknakbldggaa
open Go.RowKit Go.Maps

namespace Fs
/-- How many terms, and of how many bytes. -/
def num (l : List En) : Nat × Nat := (l.length, deep l)
def sumT (L : List (Nat × Nat)) (ws : List (UInt8 × Int × Nat)) : Nat := (ws.map fun w => (L.getD w.2.2 (0, 0)).1).sum
def maxD (L : List (Nat × Nat)) : List (UInt8 × Int × Nat) → Nat
  | [] => 0
  | w :: ws => max (if 0 < (L.getD w.2.2 (0, 0)).1 then (L.getD w.2.2 (0, 0)).2 + 1 else 0) (maxD L ws)
theorem maxD_snoc (L : List (Nat × Nat)) (ws : List (UInt8 × Int × Nat)) (w : UInt8 × Int × Nat) : maxD L (ws ++ [w]) = max (maxD L ws) (if 0 < (L.getD w.2.2 (0, 0)).1 then (L.getD w.2.2 (0, 0)).2 + 1 else 0) := by
  induction ws with
  | nil => show max _ 0 = max 0 _; omega
  | cons v ws ih =>
    show max _ (maxD L (ws ++ [w])) = max (max _ (maxD L ws)) _
    rw [ih]; omega
theorem sumT_snoc (L : List (Nat × Nat)) (ws : List (UInt8 × Int × Nat)) (w : UInt8 × Int × Nat) : sumT L (ws ++ [w]) = sumT L ws + (L.getD w.2.2 (0, 0)).1 := by
  unfold sumT
  rw [List.map_append, List.sum_append]
  simp
theorem getD_num (T : List (List En)) (i : Nat) : (T.map num).getD i (0, 0) = num (T.getD i []) := by
  rw [List.getD_eq_getElem?_getD, List.getD_eq_getElem?_getD, List.getElem?_map]
  cases T[i]? <;> rfl
theorem ent_num (T : List (List En)) (n : Nd) : num (ent T n) = ((ofEnd n.1).length + sumT (T.map num) n.2, maxD (T.map num) n.2) := by
  unfold ent
  have hl : ∀ ws : List (UInt8 × Int × Nat), (ws.flatMap fun w => upW w.1 w.2.1 (T.getD w.2.2 [])).length = sumT (T.map num) ws ∧ deep (ws.flatMap fun w => upW w.1 w.2.1 (T.getD w.2.2 [])) = maxD (T.map num) ws := by
    intro ws
    induction ws with
    | nil => exact ⟨rfl, rfl⟩
    | cons w ws ih =>
      rw [List.flatMap_cons, List.length_append, deep_append, ih.1, ih.2, upW_length]
      refine ⟨?_, ?_⟩
      · show _ = ((w :: ws).map _).sum
        rw [List.map_cons, List.sum_cons, getD_num]
        rfl
      · show _ = max _ (maxD _ ws)
        rw [getD_num]
        by_cases h0 : T.getD w.2.2 [] = []
        · rw [h0]
          rfl
        · rw [deep_upW h0, if_pos (show 0 < (num (T.getD w.2.2 [])).1 from List.length_pos_iff.2 h0)]
          rfl
  show ((ofEnd n.1 ++ _).length, deep (ofEnd n.1 ++ _)) = _
  rw [List.length_append, deep_append, (hl n.2).1, (hl n.2).2]
  congr 1
  cases n.1 <;> show max 0 _ = _ <;> omega
end Fs
def rsV (L : List (Nat × Nat)) : List Value := L.flatMap fun x => [.int .i32 (x.1 : Int), .int .i32 (x.2 : Int)]
def OwnR (w : World) (B : Nat) (v : Value) (L : List (Nat × Nat)) : Prop := w.ownsRow B 108 2 v L.length (rsV L)
/-- The value v is a slice of these numbers. -/
def RstS (w : World) (v : Value) (L : List (Nat × Nat)) : Prop :=
  ∃ a cap, v = .slice a L.length cap ∧ L.length ≤ cap ∧ cap ≤ 9223372036854775807 ∧ (0 < L.length → ∃ g, a = some ⟨g, 0, none⟩ ∧ g < w.heap.size ∧ ∀ i (_ : i < L.length), w.cell? ⟨g, i * 2, none⟩ = some (.int .i32 (L[i].1 : Int)) ∧ w.cell? ⟨g, i * 2 + 1, none⟩ = some (.int .i32 (L[i].2 : Int)))
theorem OwnR.rst {w : World} {B : Nat} {v : Value} {l : List (Nat × Nat)} (h : OwnR w B v l) : RstS w v l := by
  rcases h.2 with ⟨rfl, h0⟩ | ⟨g, cap, cur, rfl, hg, hh, hnc, hcp, hcs, htake⟩
  · exact ⟨none, 0, by rw [h0], by omega, by omega, fun h => by omega⟩
  · have hown : w.ownsRow B 108 2 (.slice (some ⟨g, 0, none⟩) l.length cap) l.length (rsV l) := h
    have e : ∀ j u, (rsV l)[j]? = some u → w.cell? ⟨g, j, none⟩ = some u := fun j u hj => by
      have h := hown.cells (g := g) rfl j u hj
      rw [Addr.add_lit, Nat.zero_add] at h
      exact h
    have hv : ∀ (l : List (Nat × Nat)) i (h : i < l.length), (rsV l)[i * 2]? = some (.int .i32 (l[i].1 : Int)) ∧ (rsV l)[i * 2 + 1]? = some (.int .i32 (l[i].2 : Int)) := by
      intro l
      induction l with
      | nil => intro i h; exact absurd h (Nat.not_lt_zero _)
      | cons x l ih =>
        intro i h
        cases i with
        | zero => exact ⟨rfl, rfl⟩
        | succ i =>
          have := ih i (by simpa using h)
          rw [show (i + 1) * 2 = i * 2 + 2 by omega]
          exact this
    refine ⟨_, cap, rfl, hnc, (by unfold maxLen at hcp; exact hcp), fun _ => ⟨g, rfl, (hown.lt g rfl).2, fun i hi => ⟨e _ _ (hv l i hi).1, e _ _ (hv l i hi).2⟩⟩⟩
theorem RstS.below {w w' : World} {v : Value} {l : List (Nat × Nat)} (h : RstS w v l) (hb : Below w.heap.size w w') : RstS w' v l := by
  obtain ⟨a, cap, h1, h2, h3, h4⟩ := h
  refine ⟨a, cap, h1, h2, h3, fun h0 => ?_⟩
  obtain ⟨g, h5, h6, h7⟩ := h4 h0
  exact ⟨g, h5, Nat.lt_of_lt_of_le h6 hb.size, fun i hi => ⟨(hb.cell (p := ⟨g, i * 2, none⟩) h6).trans (h7 i hi).1, (hb.cell (p := ⟨g, i * 2 + 1, none⟩) h6).trans (h7 i hi).2⟩⟩
theorem aggR (w : World) : (isAgg 108).run Try.prog w = .ok true w := by kernel_rfl
theorem sizeR (w : World) : (sizeOf 108).run Try.prog w = .ok 2 w := by kernel_rfl
theorem loadR (w : World) (b : Nat) (c0 c1 : Value) (h : RowT 108 w b #[c0, c1]) : (loadVar 108 ⟨b, 0, none⟩).run Try.prog w = .ok (.agg #[c0, c1]) w := by
  unfold loadVar
  rw [Sem.run_bind, aggR]
  simp only [Result.andThen_ok, if_true, Sem.run_bind, sizeR]
  have h := run_loadCells_list (P := Try.prog) w ⟨b, 0, none⟩ [c0, c1] (fun j v hj => by
    match j, hj with
    | 0, hj => simp at hj; subst hj; simpa [Addr.add] using h.cell 0
    | 1, hj => simp at hj; subst hj; simpa [Addr.add] using h.cell 1)
  rw [show [c0, c1].length = 2 from rfl] at h
  rw [h]
  rfl
theorem results_cell_1 {P : Program} {fn : Func} {a : Tmp} {t : TypeId} (h : fn.results = #[.cell a t]) (tmps : Array Value) (w : World) (p : Addr) (v : Value) (ha : tmps.getD a undef = .pointer (some p)) (hl : (loadVar t p).run P w = .ok v w) :
    (results fn tmps).run P w = .ok v w := by
  have h2 : (asAddr (tmps.getD a undef)).run P w = .ok p w := by rw [ha]; rfl
  unfold results
  rw [h]
  simp only [Sem.run_bind, List.mapM_toArray, List.mapM_cons, List.mapM_nil, h2, Result.andThen_ok, hl, Sem.run_pure, Sem.run_map]
  simp
/-- What restsOf holds, k ways on. -/
structure RstB (w wx : World) (t d : Nat) : Prop where
  res : RowT 108 wx (w.heap.size + 1) #[.int .i32 0, .int .i32 0]
  row : RowT 108 wx (w.heap.size + 1 + 1) #[.int .i32 (t : Int), .int .i32 (d : Int)]
  bel : Below w.heap.size w wx
theorem RstB.below {w wx w' : World} {t d : Nat} (h : RstB w wx t d) (hb : Below wx.heap.size wx w') : RstB w w' t d :=
  ⟨h.res.keep (hb.block _ h.res.lt), h.row.keep (hb.block _ h.row.lt), h.bel.trans (hb.mono h.bel.size)⟩
theorem RstB.put {w wx : World} {t d t' d' : Nat} (h : RstB w wx t d) (i : Nat) (v : Value) (hx : (#[.int .i32 (t : Int), .int .i32 (d : Int)] : Array Value).setIfInBounds i v = #[.int .i32 (t' : Int), .int .i32 (d' : Int)]) : RstB w (wx.setCell ⟨w.heap.size + 1 + 1, i, none⟩ v) t' d' := by
  have h1 := h.row.set i v
  rw [hx] at h1
  exact ⟨h.res.keep (heap_other _ _ _ _ _ (by omega)), h1, h.bel.setCell (by show w.heap.size ≤ w.heap.size + 1 + 1; omega) _⟩
theorem RstB.cast {w wx : World} {t d t' d' : Nat} (h : RstB w wx t d) (e1 : t = t') (e2 : d = d') : RstB w wx t' d' := e1 ▸ e2 ▸ h
theorem rstB_made (w : World) (_ : Value) (t : Nat) (cs : Array Value) : RstB w (((w.alloc (.cells cs 51)).alloc (.cells #[.int .i32 0, .int .i32 0] 108)).alloc (.cells #[.int .i32 (t : Int), .int .i32 ((0 : Nat) : Int)] 108)) t 0 := by
  have s1 : (w.alloc (.cells cs 51)).heap.size = w.heap.size + 1 := World.size_alloc _ _
  have s2 : ((w.alloc (.cells cs 51)).alloc (.cells #[.int .i32 0, .int .i32 0] 108)).heap.size = w.heap.size + 1 + 1 := by rw [World.size_alloc, s1]
  refine ⟨?_, ?_, ?_⟩
  · show _ = _
    rw [Go.Deep.blk_alloc_lt _ _ _ (by omega), ← s1]
    exact Go.Deep.blk_alloc_new _ _
  · show _ = _
    rw [← s2]
    exact Go.Deep.blk_alloc_new _ _
  · exact (((Below.refl _ _).alloc (Nat.le_refl _) _).alloc (by omega) _).alloc (by omega) _
set_option maxRecDepth 100000 in
set_option maxHeartbeats 8000000 in
theorem rests_false (w : World) (o : Int) (wv bv : Value) (ws : List (UInt8 × Int × Nat)) (L : List (Nat × Nat)) (hw : WayS w wv ws) (hl : RstS w bv L) (hws : ws.length ≤ 256) (hto : ∀ x ∈ ws, x.2.2 < L.length) (hL : ∀ x ∈ L, x.1 ≤ 65536 ∧ x.2 ≤ 64) :
    Calls Try.prog 52 #[.agg #[.bool false, .int .i64 o, wv], bv] w fun e w' => e = .returned (.agg #[.int .i32 ((0 + Fs.sumT L ws : Nat) : Int), .int .i32 (Fs.maxD L ws : Int)]) ∧ Below w.heap.size w w' := by
  obtain ⟨aw, cw, rfl, hwc, hwm, hwr⟩ := hw
  obtain ⟨al, cl, rfl, hlc, hlm, hlr⟩ := hl
  have hwr2 : ∀ wx, Below w.heap.size w wx → 0 < ws.length → ∃ g, aw = some ⟨g, 0, none⟩ ∧ ∀ i (_ : i < ws.length), wx.cell? ⟨g, i * 3, none⟩ = some (.int .i64 (ws[i].1.toNat : Nat)) ∧ wx.cell? ⟨g, i * 3 + 1, none⟩ = some (.int .i64 ws[i].2.1) ∧ wx.cell? ⟨g, i * 3 + 2, none⟩ = some (.int .i64 (ws[i].2.2 : Nat)) := fun wx hb h0 => by
    obtain ⟨g, h1, h2, h3⟩ := hwr h0
    exact ⟨g, h1, fun i hi => ⟨(hb.cell (p := ⟨g, i * 3, none⟩) h2).trans (h3 i hi).1, (hb.cell (p := ⟨g, i * 3 + 1, none⟩) h2).trans (h3 i hi).2.1, (hb.cell (p := ⟨g, i * 3 + 2, none⟩) h2).trans (h3 i hi).2.2⟩⟩
  have hlr2 : ∀ wx, Below w.heap.size w wx → 0 < L.length → ∃ g, al = some ⟨g, 0, none⟩ ∧ ∀ i (_ : i < L.length), wx.cell? ⟨g, i * 2, none⟩ = some (.int .i32 (L[i].1 : Int)) ∧ wx.cell? ⟨g, i * 2 + 1, none⟩ = some (.int .i32 (L[i].2 : Int)) := fun wx hb h0 => by
    obtain ⟨g, h1, h2, h3⟩ := hlr h0
    exact ⟨g, h1, fun i hi => ⟨(hb.cell (p := ⟨g, i * 2, none⟩) h2).trans (h3 i hi).1, (hb.cell (p := ⟨g, i * 2 + 1, none⟩) h2).trans (h3 i hi).2⟩⟩
  have HWR := Lib.hid hwr2
  have HLR := Lib.hid hlr2
  have HM := Lib.hid (rstB_made w (.agg #[]) 0 #[.bool false, .int .i64 o, .slice aw ws.length cw])
  have HTO := Lib.hid hto
  have HL := Lib.hid hL
  obtain ⟨m, hm⟩ : ∃ m, m = ws.length := ⟨_, rfl⟩
  rw [← hm] at hwc hws
  have HMM := Lib.hid hm
  obtain ⟨nl, hnl⟩ : ∃ nl, nl = L.length := ⟨_, rfl⟩
  rw [← hnl] at hlc
  have HNL := Lib.hid hnl
  rw [← hm, ← hnl]
  rw [← hm] at HM
  obtain ⟨TT, hTT⟩ : ∃ TT, TT = 0 + Fs.sumT L ws := ⟨_, rfl⟩
  obtain ⟨DD, hDD⟩ : ∃ DD, DD = Fs.maxD L ws := ⟨_, rfl⟩
  rw [← hTT, ← hDD]
  have HTT := Lib.hid hTT
  have HDD := Lib.hid hDD
  clear hwr hlr hwr2 hlr2 hto hL hm hnl hTT hDD
  go_enter Try.func52, Try.ntmps52
  go_wp2_with fail
  go_loopg [15] m (fun gg iv wx => ∃ k : Nat, k ≤ m ∧ gg = m - k ∧ iv = .int .i64 (k : Int) ∧ Hid (RstB w wx (0 + Fs.sumT L (ws.take k)) (Fs.maxD L (ws.take k))) ∧ Hid (Fs.sumT L (ws.take k) ≤ k * 65536 ∧ Fs.maxD L (ws.take k) ≤ 65))
  case atStart => exact ⟨0, by omega, rfl, rfl, HM.out, by refine ⟨?_, ?_⟩ <;> show 0 ≤ _ <;> omega⟩
  case round =>
    clear HM
    obtain ⟨k, hk, rfl, rfl, hB, hS⟩ := hrel
    by_cases hkm : k < m
    · have i1 : (k : Int) < (m : Int) := by omega
      have kx : k < ws.length := by rw [← HMM.out]; exact hkm
      obtain ⟨gw, rfl, hcw⟩ := HWR.out wr hB.out.bel (by omega)
      obtain ⟨a0, a1, a2⟩ := hcw k kx
      have hto := HTO.out _ (List.getElem_mem kx)
      have htk : ws.take (k + 1) = ws.take k ++ [ws[k]] := List.take_succ_eq_append_getElem kx
      obtain ⟨c, x, tt, hway⟩ : ∃ c x tt, ws[k] = (c, x, tt) := ⟨_, _, _, rfl⟩
      rw [hway] at a0 a1 a2 hto htk
      dsimp only at a0 a1 a2 hto
      have hB1 := hB.out.below ((Below.refl _ _).alloc (Nat.le_refl _) (.cells #[.int .i64 (c.toNat : Nat), .int .i64 x, .int .i64 (tt : Nat)] 55))
      obtain ⟨gl, rfl, hcl⟩ := HLR.out _ hB1.bel (by omega)
      obtain ⟨b0, b1⟩ := hcl tt hto
      have hLt := HL.out _ (List.getElem_mem hto)
      have hgd : L.getD tt (0, 0) = L[tt] := by rw [List.getD_eq_getElem?_getD, List.getElem?_eq_getElem hto]; rfl
      have hst : Fs.sumT L (ws.take (k + 1)) = Fs.sumT L (ws.take k) + L[tt].1 := by rw [htk, Fs.sumT_snoc, hgd]
      have hmt : Fs.maxD L (ws.take (k + 1)) = max (Fs.maxD L (ws.take k)) (if 0 < L[tt].1 then L[tt].2 + 1 else 0) := by rw [htk, Fs.maxD_snoc, hgd]
      have hlt : (tt : Int) < (nl : Int) := by have := HNL.out; omega
      have hS2 := hS.out
      have i3 : 0 ≤ (tt : Int) := by omega
      generalize Fs.sumT L (ws.take k) = t at *
      generalize Fs.maxD L (ws.take k) = d at *
      generalize L[tt].1 = p at *
      generalize L[tt].2 = q at *
      have hB2 := hB1.below ((Below.refl _ _).alloc (Nat.le_refl _) (.cells #[.int .i32 (p : Int), .int .i32 (q : Int)] 108))
      have r0 := hB2.row.cell 0
      have r1 := hB2.row.frozen 0
      obtain ⟨T2, hT2⟩ : ∃ T2, T2 = 0 + (t + p) := ⟨_, rfl⟩
      obtain ⟨T1, hT1⟩ : ∃ T1, T1 = 0 + t := ⟨_, rfl⟩
      obtain ⟨q2, hq2⟩ : ∃ q2, q2 = q + 1 := ⟨_, rfl⟩
      obtain ⟨D2, hD2⟩ : ∃ D2, D2 = max d q2 := ⟨_, rfl⟩
      rw [← hT1] at hB2 r0
      have hwp : IntKind.i32.wrap ((T1 : Int) + (p : Int)) = (T2 : Int) := by rw [IntKind.wrap_i32]; omega
      have hwq : IntKind.i32.wrap ((q : Int) + 1) = (q2 : Int) := by rw [IntKind.wrap_i32]; omega
      clear htk hto hcl hgd hS hB hcw hway hB1
      by_cases hp : 0 < p
      · have j1 : 0 < (p : Int) := by omega
        rw [if_pos hp] at hmt
        have hB3 := hB2.put 0 (.int .i32 (T2 : Int)) (t' := T2) (d' := d) rfl
        have r2 := hB3.row.cell 1
        have r3 := hB3.row.frozen 1
        have hB4 := hB3.put 1 (.int .i32 (D2 : Int)) (t' := T2) (d' := D2) rfl
        have HB4 := Lib.hid (hB4.cast (show T2 = 0 + Fs.sumT L (ws.take (k + 1)) by omega) (show D2 = Fs.maxD L (ws.take (k + 1)) by omega))
        have HS4 : Hid (Fs.sumT L (ws.take (k + 1)) ≤ (k + 1) * 65536 ∧ Fs.maxD L (ws.take (k + 1)) ≤ 65) := by show _ ∧ _; omega
        have hmx : max (d : Int) (q2 : Int) = (D2 : Int) := by omega
        clear hB2 hB3 hB4 hst hmt hp hS2 hT2 hT1 hq2 hD2
        go_wp2_with fail
        go_roundg (m - (k + 1))
        case rel => exact ⟨k + 1, by omega, rfl, by go_num, by first | exact HB4.out | (rw [hmx]; exact HB4.out), HS4.out⟩
        case measure => omega
      · obtain rfl : p = 0 := by omega
        have j1 : ¬ (0 : Int) < ((0 : Nat) : Int) := by omega
        rw [if_neg hp] at hmt
        have HB4 := Lib.hid (hB2.cast (show T1 = 0 + Fs.sumT L (ws.take (k + 1)) by omega) (show d = Fs.maxD L (ws.take (k + 1)) by omega))
        have HS4 : Hid (Fs.sumT L (ws.take (k + 1)) ≤ (k + 1) * 65536 ∧ Fs.maxD L (ws.take (k + 1)) ≤ 65) := by show _ ∧ _; omega
        clear hB2 hst hmt hp hS2 hT2 hT1 hq2 hD2
        go_wp2_with fail
        go_roundg (m - (k + 1))
        case rel => exact ⟨k + 1, by omega, rfl, by go_num, HB4.out, HS4.out⟩
        case measure => omega
    · obtain rfl : k = m := by omega
      have i1 : ¬ (k : Int) < (k : Int) := by omega
      have hB2 := hB.out
      rw [List.take_of_length_le (by rw [← HMM.out]; exact Nat.le_refl _)] at hB2
      rw [← HTT.out, ← HDD.out] at hB2
      have c0 := hB2.row.cell 0
      have c1 := hB2.row.cell 1
      have g0 := hB2.res.frozen 0
      have g1 := hB2.res.cell 0
      have q1 := hB2.res.set 0 (.int .i32 (TT : Int))
      have g2 : (wr.setCell ⟨w.heap.size + 1, 0, none⟩ (.int .i32 (TT : Int))).cell? ⟨w.heap.size + 1, 1, none⟩ = some (.int .i32 0) := q1.cell 1
      have g3 := q1.frozen 1
      have q2 : RowT 108 ((wr.setCell ⟨w.heap.size + 1, 0, none⟩ (.int .i32 (TT : Int))).setCell ⟨w.heap.size + 1, 1, none⟩ (.int .i32 (DD : Int))) (w.heap.size + 1) #[.int .i32 (TT : Int), .int .i32 (DD : Int)] := q1.set 1 _
      have HQ := Lib.hid q2
      have HBE : Hid (Below w.heap.size w ((wr.setCell ⟨w.heap.size + 1, 0, none⟩ (.int .i32 (TT : Int))).setCell ⟨w.heap.size + 1, 1, none⟩ (.int .i32 (DD : Int)))) := (hB2.bel.setCell (by show w.heap.size ≤ w.heap.size + 1; omega) _).setCell (by show w.heap.size ≤ w.heap.size + 1; omega) _
      clear hB hS hB2 q1 q2 hkm
      go_wp2_with fail
      refine bodyPost_ret (results_cell_1 rfl _ _ ⟨w.heap.size + 1, 0, none⟩ (.agg #[.int .i32 (TT : Int), .int .i32 (DD : Int)]) rfl (loadR _ _ _ _ HQ.out)) rfl ?_
      exact ⟨rfl, HBE.out⟩
set_option maxRecDepth 100000 in
set_option maxHeartbeats 8000000 in
theorem rests_true (w : World) (o : Int) (wv bv : Value) (ws : List (UInt8 × Int × Nat)) (L : List (Nat × Nat)) (hw : WayS w wv ws) (hl : RstS w bv L) (hws : ws.length ≤ 256) (hto : ∀ x ∈ ws, x.2.2 < L.length) (hL : ∀ x ∈ L, x.1 ≤ 65536 ∧ x.2 ≤ 64) :
    Calls Try.prog 52 #[.agg #[.bool true, .int .i64 o, wv], bv] w fun e w' => e = .returned (.agg #[.int .i32 ((1 + Fs.sumT L ws : Nat) : Int), .int .i32 (Fs.maxD L ws : Int)]) ∧ Below w.heap.size w w' := by
  obtain ⟨aw, cw, rfl, hwc, hwm, hwr⟩ := hw
  obtain ⟨al, cl, rfl, hlc, hlm, hlr⟩ := hl
  have hwr2 : ∀ wx, Below w.heap.size w wx → 0 < ws.length → ∃ g, aw = some ⟨g, 0, none⟩ ∧ ∀ i (_ : i < ws.length), wx.cell? ⟨g, i * 3, none⟩ = some (.int .i64 (ws[i].1.toNat : Nat)) ∧ wx.cell? ⟨g, i * 3 + 1, none⟩ = some (.int .i64 ws[i].2.1) ∧ wx.cell? ⟨g, i * 3 + 2, none⟩ = some (.int .i64 (ws[i].2.2 : Nat)) := fun wx hb h0 => by
    obtain ⟨g, h1, h2, h3⟩ := hwr h0
    exact ⟨g, h1, fun i hi => ⟨(hb.cell (p := ⟨g, i * 3, none⟩) h2).trans (h3 i hi).1, (hb.cell (p := ⟨g, i * 3 + 1, none⟩) h2).trans (h3 i hi).2.1, (hb.cell (p := ⟨g, i * 3 + 2, none⟩) h2).trans (h3 i hi).2.2⟩⟩
  have hlr2 : ∀ wx, Below w.heap.size w wx → 0 < L.length → ∃ g, al = some ⟨g, 0, none⟩ ∧ ∀ i (_ : i < L.length), wx.cell? ⟨g, i * 2, none⟩ = some (.int .i32 (L[i].1 : Int)) ∧ wx.cell? ⟨g, i * 2 + 1, none⟩ = some (.int .i32 (L[i].2 : Int)) := fun wx hb h0 => by
    obtain ⟨g, h1, h2, h3⟩ := hlr h0
    exact ⟨g, h1, fun i hi => ⟨(hb.cell (p := ⟨g, i * 2, none⟩) h2).trans (h3 i hi).1, (hb.cell (p := ⟨g, i * 2 + 1, none⟩) h2).trans (h3 i hi).2⟩⟩
  have HWR := Lib.hid hwr2
  have HLR := Lib.hid hlr2
  have HM := Lib.hid (rstB_made w (.agg #[]) 1 #[.bool true, .int .i64 o, .slice aw ws.length cw])
  have HTO := Lib.hid hto
  have HL := Lib.hid hL
  obtain ⟨m, hm⟩ : ∃ m, m = ws.length := ⟨_, rfl⟩
  rw [← hm] at hwc hws
  have HMM := Lib.hid hm
  obtain ⟨nl, hnl⟩ : ∃ nl, nl = L.length := ⟨_, rfl⟩
  rw [← hnl] at hlc
  have HNL := Lib.hid hnl
  rw [← hm, ← hnl]
  rw [← hm] at HM
  obtain ⟨TT, hTT⟩ : ∃ TT, TT = 1 + Fs.sumT L ws := ⟨_, rfl⟩
  obtain ⟨DD, hDD⟩ : ∃ DD, DD = Fs.maxD L ws := ⟨_, rfl⟩
  rw [← hTT, ← hDD]
  have HTT := Lib.hid hTT
  have HDD := Lib.hid hDD
  clear hwr hlr hwr2 hlr2 hto hL hm hnl hTT hDD
  go_enter Try.func52, Try.ntmps52
  go_wp2_with fail
  go_loopg [15] m (fun gg iv wx => ∃ k : Nat, k ≤ m ∧ gg = m - k ∧ iv = .int .i64 (k : Int) ∧ Hid (RstB w wx (1 + Fs.sumT L (ws.take k)) (Fs.maxD L (ws.take k))) ∧ Hid (Fs.sumT L (ws.take k) ≤ k * 65536 ∧ Fs.maxD L (ws.take k) ≤ 65))
  case atStart => exact ⟨0, by omega, rfl, rfl, HM.out, by refine ⟨?_, ?_⟩ <;> show 0 ≤ _ <;> omega⟩
  case round =>
    clear HM
    obtain ⟨k, hk, rfl, rfl, hB, hS⟩ := hrel
    by_cases hkm : k < m
    · have i1 : (k : Int) < (m : Int) := by omega
      have kx : k < ws.length := by rw [← HMM.out]; exact hkm
      obtain ⟨gw, rfl, hcw⟩ := HWR.out wr hB.out.bel (by omega)
      obtain ⟨a0, a1, a2⟩ := hcw k kx
      have hto := HTO.out _ (List.getElem_mem kx)
      have htk : ws.take (k + 1) = ws.take k ++ [ws[k]] := List.take_succ_eq_append_getElem kx
      obtain ⟨c, x, tt, hway⟩ : ∃ c x tt, ws[k] = (c, x, tt) := ⟨_, _, _, rfl⟩
      rw [hway] at a0 a1 a2 hto htk
      dsimp only at a0 a1 a2 hto
      have hB1 := hB.out.below ((Below.refl _ _).alloc (Nat.le_refl _) (.cells #[.int .i64 (c.toNat : Nat), .int .i64 x, .int .i64 (tt : Nat)] 55))
      obtain ⟨gl, rfl, hcl⟩ := HLR.out _ hB1.bel (by omega)
      obtain ⟨b0, b1⟩ := hcl tt hto
      have hLt := HL.out _ (List.getElem_mem hto)
      have hgd : L.getD tt (0, 0) = L[tt] := by rw [List.getD_eq_getElem?_getD, List.getElem?_eq_getElem hto]; rfl
      have hst : Fs.sumT L (ws.take (k + 1)) = Fs.sumT L (ws.take k) + L[tt].1 := by rw [htk, Fs.sumT_snoc, hgd]
      have hmt : Fs.maxD L (ws.take (k + 1)) = max (Fs.maxD L (ws.take k)) (if 0 < L[tt].1 then L[tt].2 + 1 else 0) := by rw [htk, Fs.maxD_snoc, hgd]
      have hlt : (tt : Int) < (nl : Int) := by have := HNL.out; omega
      have hS2 := hS.out
      have i3 : 0 ≤ (tt : Int) := by omega
      generalize Fs.sumT L (ws.take k) = t at *
      generalize Fs.maxD L (ws.take k) = d at *
      generalize L[tt].1 = p at *
      generalize L[tt].2 = q at *
      have hB2 := hB1.below ((Below.refl _ _).alloc (Nat.le_refl _) (.cells #[.int .i32 (p : Int), .int .i32 (q : Int)] 108))
      have r0 := hB2.row.cell 0
      have r1 := hB2.row.frozen 0
      obtain ⟨T2, hT2⟩ : ∃ T2, T2 = 1 + (t + p) := ⟨_, rfl⟩
      obtain ⟨T1, hT1⟩ : ∃ T1, T1 = 1 + t := ⟨_, rfl⟩
      obtain ⟨q2, hq2⟩ : ∃ q2, q2 = q + 1 := ⟨_, rfl⟩
      obtain ⟨D2, hD2⟩ : ∃ D2, D2 = max d q2 := ⟨_, rfl⟩
      rw [← hT1] at hB2 r0
      have hwp : IntKind.i32.wrap ((T1 : Int) + (p : Int)) = (T2 : Int) := by rw [IntKind.wrap_i32]; omega
      have hwq : IntKind.i32.wrap ((q : Int) + 1) = (q2 : Int) := by rw [IntKind.wrap_i32]; omega
      clear htk hto hcl hgd hS hB hcw hway hB1
      by_cases hp : 0 < p
      · have j1 : 0 < (p : Int) := by omega
        rw [if_pos hp] at hmt
        have hB3 := hB2.put 0 (.int .i32 (T2 : Int)) (t' := T2) (d' := d) rfl
        have r2 := hB3.row.cell 1
        have r3 := hB3.row.frozen 1
        have hB4 := hB3.put 1 (.int .i32 (D2 : Int)) (t' := T2) (d' := D2) rfl
        have HB4 := Lib.hid (hB4.cast (show T2 = 1 + Fs.sumT L (ws.take (k + 1)) by omega) (show D2 = Fs.maxD L (ws.take (k + 1)) by omega))
        have HS4 : Hid (Fs.sumT L (ws.take (k + 1)) ≤ (k + 1) * 65536 ∧ Fs.maxD L (ws.take (k + 1)) ≤ 65) := by show _ ∧ _; omega
        have hmx : max (d : Int) (q2 : Int) = (D2 : Int) := by omega
        clear hB2 hB3 hB4 hst hmt hp hS2 hT2 hT1 hq2 hD2
        go_wp2_with fail
        go_roundg (m - (k + 1))
        case rel => exact ⟨k + 1, by omega, rfl, by go_num, by first | exact HB4.out | (rw [hmx]; exact HB4.out), HS4.out⟩
        case measure => omega
      · obtain rfl : p = 0 := by omega
        have j1 : ¬ (0 : Int) < ((0 : Nat) : Int) := by omega
        rw [if_neg hp] at hmt
        have HB4 := Lib.hid (hB2.cast (show T1 = 1 + Fs.sumT L (ws.take (k + 1)) by omega) (show d = Fs.maxD L (ws.take (k + 1)) by omega))
        have HS4 : Hid (Fs.sumT L (ws.take (k + 1)) ≤ (k + 1) * 65536 ∧ Fs.maxD L (ws.take (k + 1)) ≤ 65) := by show _ ∧ _; omega
        clear hB2 hst hmt hp hS2 hT2 hT1 hq2 hD2
        go_wp2_with fail
        go_roundg (m - (k + 1))
        case rel => exact ⟨k + 1, by omega, rfl, by go_num, HB4.out, HS4.out⟩
        case measure => omega
    · obtain rfl : k = m := by omega
      have i1 : ¬ (k : Int) < (k : Int) := by omega
      have hB2 := hB.out
      rw [List.take_of_length_le (by rw [← HMM.out]; exact Nat.le_refl _)] at hB2
      rw [← HTT.out, ← HDD.out] at hB2
      have c0 := hB2.row.cell 0
      have c1 := hB2.row.cell 1
      have g0 := hB2.res.frozen 0
      have g1 := hB2.res.cell 0
      have q1 := hB2.res.set 0 (.int .i32 (TT : Int))
      have g2 : (wr.setCell ⟨w.heap.size + 1, 0, none⟩ (.int .i32 (TT : Int))).cell? ⟨w.heap.size + 1, 1, none⟩ = some (.int .i32 0) := q1.cell 1
      have g3 := q1.frozen 1
      have q2 : RowT 108 ((wr.setCell ⟨w.heap.size + 1, 0, none⟩ (.int .i32 (TT : Int))).setCell ⟨w.heap.size + 1, 1, none⟩ (.int .i32 (DD : Int))) (w.heap.size + 1) #[.int .i32 (TT : Int), .int .i32 (DD : Int)] := q1.set 1 _
      have HQ := Lib.hid q2
      have HBE : Hid (Below w.heap.size w ((wr.setCell ⟨w.heap.size + 1, 0, none⟩ (.int .i32 (TT : Int))).setCell ⟨w.heap.size + 1, 1, none⟩ (.int .i32 (DD : Int)))) := (hB2.bel.setCell (by show w.heap.size ≤ w.heap.size + 1; omega) _).setCell (by show w.heap.size ≤ w.heap.size + 1; omega) _
      clear hB hS hB2 q1 q2 hkm
      go_wp2_with fail
      refine bodyPost_ret (results_cell_1 rfl _ _ ⟨w.heap.size + 1, 0, none⟩ (.agg #[.int .i32 (TT : Int), .int .i32 (DD : Int)]) rfl (loadR _ _ _ _ HQ.out)) rfl ?_
      exact ⟨rfl, HBE.out⟩
end Go.Proofs.Ytdjiknakbldggaa

/-
  A number takes a byte at least, and so does a node.
-/
namespace Go.Proofs.Ytdjiknakbldggaa.Fs
open Go.RowKit

theorem back_z (f : Nat) (x : Int × Int × Int) : (Pl.back f x).2.1 = x.2.1 ∧ (Pl.back f x).2.2 = x.2.2 := by
  unfold Pl.back
  split <;> exact ⟨rfl, rfl⟩
theorem rdNum_pos {l : List UInt8} (h : (Pl.rdNum l).2.2 = 0) : 1 ≤ (Pl.rdNum l).2.1 ∧ l ≠ [] := by
  cases l with
  | nil => exact absurd h (by decide)
  | cons c t =>
    refine ⟨?_, List.cons_ne_nil _ _⟩
    have e : Pl.rdNum (c :: t) = if c.toNat ^^^ Pl.flipOf c < 240 then Pl.back (Pl.flipOf c) (((c.toNat ^^^ Pl.flipOf c : Nat) : Int) - 128, 1, 0) else Pl.back (Pl.flipOf c) (Pl.rdWide c t (Pl.flipOf c)) := rfl
    rw [e] at h ⊢
    by_cases h1 : c.toNat ^^^ Pl.flipOf c < 240
    · rw [if_pos h1, (back_z _ _).1]
      exact Int.le_refl 1
    · rw [if_neg h1] at h ⊢
      rw [(back_z _ _).2] at h
      rw [(back_z _ _).1]
      unfold Pl.rdWide at h ⊢
      split at h
      · exact absurd h (by decide)
      · rename_i a1
        rw [if_neg a1]
        split at h
        · exact absurd h (by decide)
        · rename_i a2
          rw [if_neg a2]
          split at h
          · exact absurd h (by decide)
          · rename_i a3
            rw [if_neg a3]
            show 1 ≤ ((c.toNat ^^^ Pl.flipOf c : Nat) : Int) - 238
            omega
theorem past_lt {s : List UInt8} (h : cE s = 0) : (past s).length < s.length := by
  unfold cE Pl.rdCount at h
  split at h
  · exact absurd h (by decide)
  · rename_i hn
    obtain ⟨h1, h2⟩ := rdNum_pos h
    unfold past Pl.rdCount
    rw [if_neg hn, List.length_drop]
    have := List.length_pos_iff.2 h2
    omega
theorem rdN_lt {n : Nat} {s : List UInt8} (h : (rdN n s).1 = 0) : (rdN n s).2.2.length < s.length := by
  unfold rdN at h ⊢
  by_cases h0 : cE s = 0
  · have hp := past_lt h0
    rw [if_neg (fun q => q h0)] at h ⊢
    by_cases h1 : 513 < cN s
    · rw [if_pos h1] at h
      exact absurd h (by decide)
    · rw [if_neg h1] at h ⊢
      by_cases h2 : cN s % 2 = 1
      · rw [if_pos h2] at h ⊢
        by_cases h3 : cE (past s) = 0
        · rw [if_neg (fun q => q h3)] at h ⊢
          obtain ⟨_, _, r3⟩ := rdWs_to h (fun w hw => absurd hw (List.not_mem_nil))
          exact Nat.lt_of_le_of_lt r3 (Nat.lt_of_le_of_lt (past_le _) hp)
        · rw [if_pos h3] at h
          exact absurd h h3
      · rw [if_neg h2] at h ⊢
        obtain ⟨_, _, r3⟩ := rdWs_to h (fun w hw => absurd hw (List.not_mem_nil))
        exact Nat.lt_of_le_of_lt r3 hp
  · rw [if_pos h0] at h
    exact absurd h h0
/-- Wide by the numbers alone. -/
theorem wide_num {l : List En} : Wide l ↔ 65536 < (num l).1 ∨ 64 < (num l).2 := Iff.rfl
theorem num_nil {l : List En} : (num l).1 = 0 ↔ l = [] := List.length_eq_zero_iff
end Go.Proofs.Ytdjiknakbldggaa.Fs

/-
  Nodes of the call's own.
-/
namespace Go.Proofs.Ytdjiknakbldggaa
open Go.RowKit Go.Maps

/-- The cells of nodes whose ways lie in these values. -/
def ndV : List Fs.Nd → List Value → List Value
  | d :: N, v :: vs => .bool d.1.isSome :: .int .i64 (d.1.getD 0) :: v :: ndV N vs
  | _, _ => []
theorem ndV_at : ∀ (N : List Fs.Nd) (vs : List Value) (_ : vs.length = N.length) (i : Nat) (h : i < N.length) (h' : i < vs.length), (ndV N vs)[i * 3]? = some (.bool N[i].1.isSome) ∧ (ndV N vs)[i * 3 + 1]? = some (.int .i64 (N[i].1.getD 0)) ∧ (ndV N vs)[i * 3 + 2]? = some vs[i]
  | [], _, _, i, h, _ => absurd h (Nat.not_lt_zero _)
  | _ :: _, [], hl, _, _, _ => by cases hl
  | d :: N, v :: vs, hl, i, h, h' => by
    cases i with
    | zero => exact ⟨rfl, rfl, rfl⟩
    | succ i =>
      have := ndV_at N vs (by simpa using hl) i (by simpa using h) (by simpa using h')
      rw [show (i + 1) * 3 = i * 3 + 3 by omega]
      exact this
theorem ndV_snoc : ∀ (N : List Fs.Nd) (vs : List Value) (_ : vs.length = N.length) (d : Fs.Nd) (v : Value), ndV (N ++ [d]) (vs ++ [v]) = ndV N vs ++ [.bool d.1.isSome, .int .i64 (d.1.getD 0), v]
  | [], [], _, _, _ => rfl
  | _ :: _, [], hl, _, _ => by cases hl
  | [], _ :: _, hl, _, _ => by cases hl
  | e :: N, u :: vs, hl, d, v => by
    show Value.bool e.1.isSome :: .int .i64 (e.1.getD 0) :: u :: ndV (N ++ [d]) (vs ++ [v]) = Value.bool e.1.isSome :: .int .i64 (e.1.getD 0) :: u :: (ndV N vs ++ _)
    rw [ndV_snoc N vs (by simpa using hl)]
/-- The slice v is the call's own, from block B on, and holds these nodes, whose ways are the call's own. -/
def NodO (w : World) (B : Nat) (v : Value) (N : List Fs.Nd) : Prop :=
  ∃ vs : List Value, vs.length = N.length ∧ w.ownsRow B 51 3 v N.length (ndV N vs) ∧ ∀ i (h : i < N.length) (h' : i < vs.length), OwnY w B vs[i] N[i].2
theorem NodO.nil (w : World) (B : Nat) : NodO w B (.slice none 0 0) [] := ⟨[], rfl, World.ownsRow_nil _ _ _ _, fun _ h => absurd h (Nat.not_lt_zero _)⟩
theorem NodO.kt {T : List TypeId} {B : Nat} {w w' : World} {v : Value} {N : List Fs.Nd} (h : NodO w B v N) (k : KeptT T B w w') (h1 : 51 ∈ T) (h2 : 55 ∈ T) : NodO w' B v N := by
  obtain ⟨vs, hl, ho, hy⟩ := h
  exact ⟨vs, hl, ownsRow_kt ho k h1, fun i a b => ownsRow_kt (hy i a b) k h2⟩
theorem NodO.nods {w : World} {B : Nat} {v : Value} {N : List Fs.Nd} (h : NodO w B v N) : NodS w v N := by
  obtain ⟨vs, hl, ho, hy⟩ := h
  rcases ho.2 with ⟨rfl, h0⟩ | ⟨g, cap, cur, rfl, hg, hh, hnc, hcp, hcs, htake⟩
  · exact ⟨none, 0, by rw [h0], by omega, by omega, fun h => by omega⟩
  · have hown : w.ownsRow B 51 3 (.slice (some ⟨g, 0, none⟩) N.length cap) N.length (ndV N vs) := ho
    have e : ∀ j u, (ndV N vs)[j]? = some u → w.cell? ⟨g, j, none⟩ = some u := fun j u hj => by
      have h := hown.cells (g := g) rfl j u hj
      rw [Addr.add_lit, Nat.zero_add] at h
      exact h
    refine ⟨_, cap, rfl, hnc, (by unfold maxLen at hcp; exact hcp), fun _ => ⟨g, rfl, (hown.lt g rfl).2, fun i hi => ?_⟩⟩
    obtain ⟨c1, c2, c3⟩ := ndV_at N vs hl i hi (by omega)
    exact ⟨vs[i]'(by omega), (hy i hi (by omega)).ways, e _ _ c1, e _ _ c2, e _ _ c3⟩
/-- A node has been put behind the others. -/
theorem NodO.push {w w5 : World} {B g cap : Nat} {v wv : Value} {N : List Fs.Nd} {d : Fs.Nd} (h : NodO w B v N) (hd : OwnY w B wv d.2)
    (hw : ∀ xs, w.ownsRow B 51 3 v N.length xs → w5.ownsRow B 51 3 (.slice (some ⟨g, 0, none⟩) (N.length + 1) cap) (N.length + 1) (xs ++ [.bool d.1.isSome, .int .i64 (d.1.getD 0), wv])) (k : KeptT [55] B w w5) : NodO w5 B (.slice (some ⟨g, 0, none⟩) (N.length + 1) cap) (N ++ [d]) := by
  obtain ⟨vs, hl, ho, hy⟩ := h
  refine ⟨vs ++ [wv], by rw [List.length_append, List.length_append, hl]; rfl, ?_, fun i a b => ?_⟩
  · rw [ndV_snoc N vs hl, List.length_append]
    exact hw _ ho
  · rw [List.length_append] at a
    rcases Nat.lt_or_ge i N.length with q | q
    · rw [List.getElem_append_left (by omega), List.getElem_append_left q]
      exact ownsRow_kt (hy i q (by omega)) k (by decide)
    · have hi : i = N.length := by
        have : [d].length = 1 := rfl
        omega
      subst hi
      rw [List.getElem_append_right (by omega), List.getElem_append_right (Nat.le_refl _)]
      simp only [hl, Nat.sub_self, List.getElem_cons_zero]
      exact ownsRow_kt hd k (by decide)
end Go.Proofs.Ytdjiknakbldggaa

/-
  What is read so far, in memory.
-/
namespace Go.Proofs.Ytdjiknakbldggaa
open Go.RowKit Go.Maps

theorem Try.infoN : (Try.prog.info? 51).map (fun i => (i.zero, i.size, i.bytes)) = some (some (.agg #[.bool false, .int .i64 0, .slice none 0 0]), 3, 40) := by kernel_rfl
theorem Try.infoR : (Try.prog.info? 108).map (fun i => (i.zero, i.size, i.bytes)) = some (some (.agg #[.int .i32 0, .int .i32 0]), 2, 8) := by kernel_rfl
theorem restsN_any (w : World) (d : Fs.Nd) (wv bv : Value) (T : List (List Fs.En)) (hw : WayS w wv d.2) (hl : RstS w bv (T.map Fs.num)) (hws : d.2.length ≤ 256) (hto : ∀ x ∈ d.2, x.2.2 < T.length) (hT : ∀ t ∈ T, ¬ Fs.Wide t) :
    Calls Try.prog 52 #[.agg #[.bool d.1.isSome, .int .i64 (d.1.getD 0), wv], bv] w fun e w' => e = .returned (.agg #[.int .i32 ((Fs.ent T d).length : Nat), .int .i32 (Fs.deep (Fs.ent T d) : Nat)]) ∧ Below w.heap.size w w' := by
  have hn := Fs.ent_num T d
  have h1 : ∀ x ∈ T.map Fs.num, x.1 ≤ 65536 ∧ x.2 ≤ 64 := by
    intro x hx
    obtain ⟨t, ht, rfl⟩ := List.mem_map.1 hx
    have := hT t ht
    unfold Fs.Wide at this
    show t.length ≤ 65536 ∧ Fs.deep t ≤ 64
    omega
  have h2 : ∀ x ∈ d.2, x.2.2 < (T.map Fs.num).length := by rw [List.length_map]; exact hto
  have e1 := congrArg Prod.fst hn
  have e2 := congrArg Prod.snd hn
  obtain ⟨f, ws⟩ := d
  cases f with
  | none =>
    have e3 : (Fs.ent T (none, ws)).length = 0 + Fs.sumT (T.map Fs.num) ws := e1
    have e4 : Fs.deep (Fs.ent T (none, ws)) = Fs.maxD (T.map Fs.num) ws := e2
    rw [e3, e4]
    exact rests_false w 0 wv bv ws _ hw hl hws h2 h1
  | some v =>
    have e3 : (Fs.ent T (some v, ws)).length = 1 + Fs.sumT (T.map Fs.num) ws := e1
    have e4 : Fs.deep (Fs.ent T (some v, ws)) = Fs.maxD (T.map Fs.num) ws := e2
    rw [e3, e4]
    exact rests_true w v wv bv ws _ hw hl hws h2 h1

/-- Nothing of these kinds has turned. -/
def KindK (T : List TypeId) (w w' : World) : Prop := ∀ (k : Nat) (c : Array Value) (t : TypeId) (fz : Nat × Nat), w.heap[k]? = some (Obj.cells c t fz) → t ∈ T → w'.heap[k]? = w.heap[k]?
theorem KindK.trans {T : List TypeId} {w w' w'' : World} (h : KindK T w w') (k : KindK T w' w'') : KindK T w w'' := fun i c t fz hc ht => by
  have e := h i c t fz hc ht
  exact (k i c t fz (e.trans hc) ht).trans e
theorem KindK.less {S T : List TypeId} {w w' : World} (h : KindK T w w') (hs : ∀ t ∈ S, t ∈ T) : KindK S w w' := fun k c t fz hc ht => h k c t fz hc (hs t ht)
theorem KindK.of_below {T : List TypeId} {w w' : World} (h : Below w.heap.size w w') : KindK T w w' := fun k _ _ _ hc _ => h.block k (Array.getElem?_eq_some_iff.1 hc).1
theorem KindK.of_kt {T : List TypeId} {B : Nat} {w w' : World} (h : KeptT T B w w') : KindK T w w' := h.kind
theorem KindK.one {T : List TypeId} {w w' : World} {b : Nat} {cs : Array Value} {t0 : TypeId} (h : KeptF (fun k => k = b) w w') (hb : RowT t0 w b cs) (ht : t0 ∉ T) : KindK T w w' := fun k c t fz hc htT =>
  h.block k (Array.getElem?_eq_some_iff.1 hc).1 (fun e => by subst e; exact ht (kind_inj hc hb ▸ htT))
theorem ownsRow_kk {T : List TypeId} {B : Nat} {w w' : World} {e : TypeId} {z n : Nat} {v : Value} {xs : List Value} (h : w.ownsRow B e z v n xs) (k : KindK T w w') (he : e ∈ T) : w'.ownsRow B e z v n xs :=
  ownsRow_keep h fun g hg => by
    obtain ⟨_, _, c, fz, hc⟩ := own_kind h g hg
    exact k g c e fz hc he
theorem RowT.kk {T : List TypeId} {t : TypeId} {w w' : World} {b : Nat} {cs : Array Value} (h : RowT t w b cs) (k : KindK T w w') (ht : t ∈ T) : RowT t w' b cs := h.keep (k b cs t _ h ht)
theorem NodO.kk {T : List TypeId} {B : Nat} {w w' : World} {v : Value} {N : List Fs.Nd} (h : NodO w B v N) (k : KindK T w w') (h1 : 51 ∈ T) (h2 : 55 ∈ T) : NodO w' B v N := by
  obtain ⟨vs, hl, ho, hy⟩ := h
  exact ⟨vs, hl, ownsRow_kk ho k h1, fun i a b => ownsRow_kk (hy i a b) k h2⟩
theorem NodO.put {w w5 : World} {B g cap : Nat} {wv : Value} {N : List Fs.Nd} {d : Fs.Nd} {vs : List Value} (hl : vs.length = N.length) (hy : ∀ i (h : i < N.length) (h' : i < vs.length), OwnY w B vs[i] N[i].2) (hd : OwnY w B wv d.2)
    (hw : w5.ownsRow B 51 3 (.slice (some ⟨g, 0, none⟩) (N.length + 1) cap) (N.length + 1) (ndV N vs ++ [.bool d.1.isSome, .int .i64 (d.1.getD 0), wv])) (k : KindK [55] w w5) : NodO w5 B (.slice (some ⟨g, 0, none⟩) (N.length + 1) cap) (N ++ [d]) := by
  refine ⟨vs ++ [wv], by rw [List.length_append, List.length_append, hl]; rfl, ?_, fun i a b => ?_⟩
  · rw [ndV_snoc N vs hl, List.length_append]
    exact hw
  · rw [List.length_append] at a
    rcases Nat.lt_or_ge i N.length with q | q
    · rw [List.getElem_append_left (by omega), List.getElem_append_left q]
      exact ownsRow_kk (hy i q (by omega)) k (by decide)
    · have hi : i = N.length := by
        have : [d].length = 1 := rfl
        omega
      subst hi
      rw [List.getElem_append_right (by omega), List.getElem_append_right (Nat.le_refl _)]
      simp only [hl, Nat.sub_self, List.getElem_cons_zero]
      exact ownsRow_kk hd k (by decide)

/-- The dictionary so far: none, once a node is without terms. -/
def DicO (B : Nat) (wx : World) (least : Int) (N : List Fs.Nd) (T : List (List Fs.En)) (dv : Value) : Prop :=
  (dv = .pointer none ∧ ∃ t ∈ T, t = []) ∨ ∃ db nv, dv = .pointer (some ⟨db, 0, none⟩) ∧ B ≤ db ∧ RowT 81 wx db #[nv, .int .i64 least, .int .i64 ((T.getLast?.getD []).length : Nat)] ∧ NodO wx B nv N ∧ Fs.Rel N T
theorem DicO.kk {S : List TypeId} {B : Nat} {wx w' : World} {least : Int} {N : List Fs.Nd} {T : List (List Fs.En)} {dv : Value} (h : DicO B wx least N T dv) (k : KindK S wx w') (h0 : 81 ∈ S) (h1 : 51 ∈ S) (h2 : 55 ∈ S) : DicO B w' least N T dv := by
  rcases h with h | ⟨db, nv, e, hb, hr, hn, hR⟩
  · exact .inl h
  · exact .inr ⟨db, nv, e, hb, hr.kk k h0, hn.kk k h1 h2, hR⟩
theorem DicO.none_snoc {B : Nat} {wx w' : World} {least : Int} {N N' : List Fs.Nd} {T : List (List Fs.En)} {t : List Fs.En} (h : DicO B wx least N T (.pointer none)) : DicO B w' least N' (T ++ [t]) (.pointer none) := by
  rcases h with ⟨_, t', h1, h2⟩ | ⟨_, _, e, _⟩
  · exact .inl ⟨rfl, t', List.mem_append_left _ h1, h2⟩
  · cases e
theorem DicO.none_of {B : Nat} {w' : World} {least : Int} {N' : List Fs.Nd} {T : List (List Fs.En)} {t : List Fs.En} (h : t = []) : DicO B w' least N' (T ++ [t]) (.pointer none) := .inl ⟨rfl, t, by simp, h⟩
/-- What read holds. -/
structure RdS (w wx : World) (b : Nat) (s : List UInt8) (least : Int) (N : List Fs.Nd) (T : List (List Fs.En)) (bv dv : Value) : Prop where
  cur : CurT wx b s
  kept : KeptF (fun k => k = b) w wx
  lt : b < w.heap.size
  rst : OwnR wx w.heap.size bv (T.map Fs.num)
  dic : DicO w.heap.size wx least N T dv
section
variable {w wx : World} {b : Nat} {s : List UInt8} {least : Int} {N : List Fs.Nd} {T : List (List Fs.En)} {bv dv : Value}
theorem RdS.turn {w1 : World} {s' : List UInt8} (h : RdS w wx b s least N T bv dv) (k : KeptF (fun k => k = b) wx w1) (hc : CurT w1 b s') : RdS w w1 b s' least N T bv dv := by
  have kk : KindK [81, 51, 55, 108] wx w1 := KindK.one k h.cur (by decide)
  exact ⟨hc, h.kept.trans k, h.lt, ownsRow_kk h.rst kk (by decide), h.dic.kk kk (by decide) (by decide) (by decide)⟩
theorem RdS.below {w' : World} (h : RdS w wx b s least N T bv dv) (k : Below wx.heap.size wx w') : RdS w w' b s least N T bv dv :=
  h.turn (KeptF.of_below k) (RowT.keep h.cur (k.block _ (RowT.lt h.cur)))
theorem RdS.size (h : RdS w wx b s least N T bv dv) : w.heap.size ≤ wx.heap.size := h.kept.size
/-- The numbers of a node have been put behind the others. -/
theorem RdS.push {w5 : World} {g cap n : Nat} {t : List Fs.En} (h : RdS w wx b s least N T bv dv) (hn : n = T.length)
    (hown : w5.ownsRow w.heap.size 108 2 (.slice (some ⟨g, 0, none⟩) (n + 1) cap) (n + 1) (rsV (T.map Fs.num) ++ [.int .i32 (t.length : Nat), .int .i32 (Fs.deep t : Nat)])) (hg : Grew wx w5 bv (.slice (some ⟨g, 0, none⟩) (n + 1) cap)) :
    CurT w5 b s ∧ KeptF (fun k => k = b) w w5 ∧ OwnR w5 w.heap.size (.slice (some ⟨g, 0, none⟩) (n + 1) cap) ((T ++ [t]).map Fs.num) ∧ DicO w.heap.size w5 least N T dv ∧ KindK [81, 51, 55] wx w5 := by
  subst hn
  have kt : KeptT [81, 51, 55, 101] w.heap.size wx w5 := hg.keptT h.rst (by decide)
  have hs := h.kept.size
  refine ⟨RowT.kk h.cur (KindK.of_kt kt) (by decide), ⟨kt.os.trans h.kept.os, kt.tape.trans h.kept.tape, kt.output.trans h.kept.output, Nat.le_trans hs kt.size, fun k hk hf => (kt.old k hk (by omega)).trans (h.kept.block k hk hf)⟩, ?_, h.dic.kk (KindK.of_kt kt) (by decide) (by decide) (by decide), (KindK.of_kt kt).less (by decide)⟩
  · unfold OwnR
    have e : rsV ((T ++ [t]).map Fs.num) = rsV (T.map Fs.num) ++ [.int .i32 (t.length : Nat), .int .i32 (Fs.deep t : Nat)] := by
      unfold rsV
      rw [List.map_append, List.flatMap_append]
      rfl
    rw [e, List.length_map, List.length_append]
    exact hown
/-- A node has been put behind the others. -/
theorem RdS.put {w5 w6 : World} {db g cap : Nat} {c nv wv : Value} {vs : List Value} {d : Fs.Nd} {t : List Fs.En} (hcur : CurT w5 b s) (hk : KeptF (fun k => k = b) w w5) (hlt : b < w.heap.size) (hr : OwnR w5 w.heap.size bv ((T ++ [t]).map Fs.num)) (hrow : RowT 81 w5 db #[nv, .int .i64 least, c]) (hB : w.heap.size ≤ db)
    (hl : vs.length = N.length) (ho : w5.ownsRow w.heap.size 51 3 nv N.length (ndV N vs)) (hy : ∀ i (h : i < N.length) (h' : i < vs.length), OwnY w5 w.heap.size vs[i] N[i].2) (hR : Fs.Rel N T) (hd : OwnY w5 w.heap.size wv d.2) (hto : ∀ x ∈ d.2, x.2.2 < N.length) (hw : ¬ Fs.Wide t) (hf : t ≠ []) (ht : t = Fs.ent T d)
    (hown : w6.ownsRow w.heap.size 51 3 (.slice (some ⟨g, 0, none⟩) (N.length + 1) cap) (N.length + 1) (ndV N vs ++ [.bool d.1.isSome, .int .i64 (d.1.getD 0), wv])) (hg : Grew w5 w6 nv (.slice (some ⟨g, 0, none⟩) (N.length + 1) cap)) :
    (w6.cell? ⟨db, 0, none⟩ = some nv ∧ w6.frozen? ⟨db, 0, none⟩ = false ∧ (w6.setCell ⟨db, 0, none⟩ (.slice (some ⟨g, 0, none⟩) (N.length + 1) cap)).cell? ⟨db, 2, none⟩ = some c ∧ (w6.setCell ⟨db, 0, none⟩ (.slice (some ⟨g, 0, none⟩) (N.length + 1) cap)).frozen? ⟨db, 2, none⟩ = false) ∧
    RdS w ((w6.setCell ⟨db, 0, none⟩ (.slice (some ⟨g, 0, none⟩) (N.length + 1) cap)).setCell ⟨db, 2, none⟩ (.int .i64 (t.length : Nat))) b s least (N ++ [d]) (T ++ [t]) bv (.pointer (some ⟨db, 0, none⟩)) := by
  subst ht
  have kt : KeptT [81, 55, 101, 108] w.heap.size w5 w6 := hg.keptT ho (by decide)
  have k6 := KindK.of_kt kt
  have r6 : RowT 81 w6 db #[nv, .int .i64 least, c] := hrow.kk k6 (by decide)
  have r7 : RowT 81 (w6.setCell ⟨db, 0, none⟩ (.slice (some ⟨g, 0, none⟩) (N.length + 1) cap)) db #[.slice (some ⟨g, 0, none⟩) (N.length + 1) cap, .int .i64 least, c] := r6.set 0 _
  have r8 : RowT 81 ((w6.setCell ⟨db, 0, none⟩ (.slice (some ⟨g, 0, none⟩) (N.length + 1) cap)).setCell ⟨db, 2, none⟩ (.int .i64 ((Fs.ent T d).length : Nat))) db #[.slice (some ⟨g, 0, none⟩) (N.length + 1) cap, .int .i64 least, .int .i64 ((Fs.ent T d).length : Nat)] := r7.set 2 _
  have kf : KeptF (fun k => k = db) w6 ((w6.setCell ⟨db, 0, none⟩ (.slice (some ⟨g, 0, none⟩) (N.length + 1) cap)).setCell ⟨db, 2, none⟩ (.int .i64 ((Fs.ent T d).length : Nat))) := KeptF.set (F := fun k => k = db) (KeptF.set (F := fun k => k = db) (KeptF.refl _ _) db 0 rfl _) db 2 rfl _
  have k8 : KindK [51, 55, 101, 108] w6 _ := KindK.one kf r6 (by decide)
  have k58 := (k6.less (S := [55, 101, 108]) (by decide)).trans (k8.less (by decide))
  have hsz := kt.size
  refine ⟨⟨r6.cell 0, r6.frozen 0, r7.cell 2, r7.frozen 2⟩, RowT.kk hcur k58 (by decide), ⟨?_, ?_, ?_, ?_, fun k h1 h2 => ?_⟩, hlt, ownsRow_kk hr k58 (by decide), .inr ⟨db, .slice (some ⟨g, 0, none⟩) (N.length + 1) cap, rfl, hB, ?_, ?_, hR.snoc hto hw hf⟩⟩
  · exact kf.os.trans (kt.os.trans hk.os)
  · exact kf.tape.trans (kt.tape.trans hk.tape)
  · exact kf.output.trans (kt.output.trans hk.output)
  · exact Nat.le_trans hk.size (Nat.le_trans hsz kf.size)
  · have h3 := hk.size
    rw [kf.block k (by omega) (by omega), kt.old k h1 (by omega)]
    exact hk.block k h1 h2
  · rw [List.getLast?_append]
    exact r8
  · exact NodO.put hl (fun i a b => ownsRow_kk (hy i a b) k58 (by decide)) (ownsRow_kk hd k58 (by decide)) (ownsRow_kk hown k8 (by decide)) (fun _ _ _ _ _ _ => rfl)
end
/-- What read answers, and leaves. -/
def ReadPost (w : World) (b : Nat) (R : Int × (List Fs.Nd × List (List Fs.En)) × List UInt8) (least : Int) (e : Ending) (w' : World) : Prop :=
  KeptF (fun k => k = b) w w' ∧ ((R.1 ≠ 0 ∧ e = .returned (.tuple #[.pointer none, .int .i64 R.1])) ∨ (R.1 = 0 ∧ ∃ dv, e = .returned (.tuple #[dv, .int .i64 0]) ∧ CurT w' b R.2.2 ∧ DicO w.heap.size w' least R.2.1.1 R.2.1.2 dv))
end Go.Proofs.Ytdjiknakbldggaa

/-
  read: a dictionary is gone over.
-/
namespace Go.Proofs.Ytdjiknakbldggaa
open Go.RowKit Go.Maps

theorem rdS_made {w W2 : World} {b : Nat} {s : List UInt8} {L : Int} (hk : KeptF (fun k => k = b) w W2) (hlt : b < w.heap.size) (hc : CurT W2 b s) : RdS w (W2.alloc (.cells #[.slice none 0 0, .int .i64 L, .int .i64 0] 81)) b s L [] [] (.slice none 0 0) (.pointer (some ⟨W2.heap.size, 0, none⟩)) := by
  have hb : Below W2.heap.size W2 (W2.alloc (.cells #[.slice none 0 0, .int .i64 L, .int .i64 0] 81)) := (Below.refl _ _).alloc (Nat.le_refl _) _
  refine ⟨RowT.keep hc (hb.block _ (RowT.lt hc)), hk.trans (KeptF.of_below hb), hlt, World.ownsRow_nil _ _ _ _, .inr ⟨W2.heap.size, .slice none 0 0, rfl, hk.size, Go.Deep.blk_alloc_new _ _, NodO.nil _ _, Fs.Rel.nil⟩⟩
set_option maxRecDepth 100000 in
set_option maxHeartbeats 4000000 in
theorem read_bad1 (s : List UInt8) (b : Nat) (w : World) (hc : CurT w b s) (hs : s.length ≤ 4194304) (he : Fs.cE s ≠ 0) :
    Calls Try.prog 34 #[.pointer (some ⟨b, 0, none⟩)] w fun e w' => e = .returned (.tuple #[.pointer none, .int .i64 (Fs.cE s)]) ∧ KeptF (fun k => k = b) w w' := by
  have HC := count_c s b w hc (by omega)
  have hk : KeptF (fun k => k = b) w (w.setCell ⟨b, 0, none⟩ (.string (bs (Fs.past s)))) := KeptF.set (F := fun k => k = b) (KeptF.refl _ _) b 0 rfl _
  obtain ⟨W1, hW1⟩ : ∃ W1, W1 = w.setCell ⟨b, 0, none⟩ (.string (bs (Fs.past s))) := ⟨_, rfl⟩
  rw [← hW1] at HC hk
  have HK := Lib.hid hk
  have HC := Lib.hid HC
  generalize Fs.cE s = E at *
  generalize Fs.cN s = x0 at *
  have he2 : ¬ E = 0 := he
  clear hW1 hk hc hs
  go_enter Try.func34, Try.ntmps34
  go_wp2_with (go_at_call 50; refine HC.out.mono ?_; rintro e1 w1 ⟨rfl, rfl⟩)
  go_ret2
  exact ⟨rfl, HK.out⟩
set_option maxRecDepth 100000 in
set_option maxHeartbeats 4000000 in
theorem read_bad2 (s : List UInt8) (b : Nat) (w : World) (hc : CurT w b s) (hs : s.length ≤ 4194304) (he : Fs.cE s = 0) (he2 : Fs.cE (Fs.past s) ≠ 0) :
    Calls Try.prog 34 #[.pointer (some ⟨b, 0, none⟩)] w fun e w' => e = .returned (.tuple #[.pointer none, .int .i64 (Fs.cE (Fs.past s))]) ∧ KeptF (fun k => k = b) w w' := by
  have HC := count_c s b w hc (by omega)
  have HC2 := count_c (Fs.past s) b (w.setCell ⟨b, 0, none⟩ (.string (bs (Fs.past s)))) (hc.set _) (by have := Fs.past_le s; omega)
  have hk : KeptF (fun k => k = b) w ((w.setCell ⟨b, 0, none⟩ (.string (bs (Fs.past s)))).setCell ⟨b, 0, none⟩ (.string (bs (Fs.past (Fs.past s))))) := KeptF.set (F := fun k => k = b) (KeptF.set (F := fun k => k = b) (KeptF.refl _ _) b 0 rfl _) b 0 rfl _
  obtain ⟨W1, hW1⟩ : ∃ W1, W1 = w.setCell ⟨b, 0, none⟩ (.string (bs (Fs.past s))) := ⟨_, rfl⟩
  rw [← hW1] at HC HC2 hk
  obtain ⟨W2, hW2⟩ : ∃ W2, W2 = W1.setCell ⟨b, 0, none⟩ (.string (bs (Fs.past (Fs.past s)))) := ⟨_, rfl⟩
  rw [← hW2] at HC2 hk
  rw [he] at HC
  have HK := Lib.hid hk
  have HC := Lib.hid HC
  have HC2 := Lib.hid HC2
  clear hW1 hW2 hk he
  generalize Fs.cE (Fs.past s) = E at *
  generalize Fs.cN s = x0 at *
  generalize Fs.cN (Fs.past s) = x1 at *
  have he3 : ¬ E = 0 := he2
  clear hc hs
  go_enter Try.func34, Try.ntmps34
  go_wp2_with (go_at_call 50; first | (refine HC.out.mono ?_; rintro e1 w1 ⟨rfl, rfl⟩) | (refine HC2.out.mono ?_; rintro e1 w1 ⟨rfl, rfl⟩))
  go_ret2
  exact ⟨rfl, HK.out⟩
set_option maxRecDepth 100000 in
set_option maxHeartbeats 16000000 in
theorem read_good (s : List UInt8) (b : Nat) (w : World) (hc : CurT w b s) (hs : s.length ≤ 4194304) (he : Fs.cE s = 0) (he2 : Fs.cE (Fs.past s) = 0) :
    Calls Try.prog 34 #[.pointer (some ⟨b, 0, none⟩)] w (ReadPost w b (Fs.rdNs (Fs.cN s).toNat (Fs.past (Fs.past s)) [] []) (Fs.cN (Fs.past s))) := by
  have HC := count_c s b w hc (by omega)
  have HC2 := count_c (Fs.past s) b (w.setCell ⟨b, 0, none⟩ (.string (bs (Fs.past s)))) (hc.set _) (by have := Fs.past_le s; omega)
  have hk : KeptF (fun k => k = b) w ((w.setCell ⟨b, 0, none⟩ (.string (bs (Fs.past s)))).setCell ⟨b, 0, none⟩ (.string (bs (Fs.past (Fs.past s))))) := KeptF.set (F := fun k => k = b) (KeptF.set (F := fun k => k = b) (KeptF.refl _ _) b 0 rfl _) b 0 rfl _
  have hc2 := (hc.set (Fs.past s)).set (Fs.past (Fs.past s))
  have hs2 : (Fs.past (Fs.past s)).length ≤ s.length := Nat.le_trans (Fs.past_le _) (Fs.past_le _)
  obtain ⟨W1, hW1⟩ : ∃ W1, W1 = w.setCell ⟨b, 0, none⟩ (.string (bs (Fs.past s))) := ⟨_, rfl⟩
  rw [← hW1] at HC HC2 hk hc2
  obtain ⟨W2, hW2⟩ : ∃ W2, W2 = W1.setCell ⟨b, 0, none⟩ (.string (bs (Fs.past (Fs.past s)))) := ⟨_, rfl⟩
  rw [← hW2] at HC2 hk hc2
  rw [he] at HC
  rw [he2] at HC2
  have hbn := cN_bd s
  have hbl := cN_bd (Fs.past s)
  obtain ⟨n, hn⟩ := Int.eq_ofNat_of_zero_le hbn.1
  rw [hn] at HC hbn ⊢
  rw [Int.toNat_natCast]
  generalize Fs.cN (Fs.past s) = L at *
  generalize Fs.past (Fs.past s) = s0 at *
  have HST := Lib.hid (rdS_made (L := L) hk (RowT.lt hc) hc2)
  have HC := Lib.hid HC
  have HC2 := Lib.hid HC2
  obtain ⟨R, hR⟩ : ∃ R, R = Fs.rdNs n s0 [] [] := ⟨_, rfl⟩
  have HR0 : Hid (Fs.rdNs n s0 [] [] = R) := hR.symm
  rw [← hR]
  obtain ⟨nb, hnb⟩ : ∃ nb, nb = b := ⟨_, rfl⟩
  clear hW1 hW2 hk hc2 hc he he2 hR hn hnb nb
  have hl0 : s0.length ≤ 4194304 := by omega
  clear hs2 hs
  go_enter Try.func34, Try.ntmps34
  go_wp2_with (go_at_call 50; first | (refine HC.out.mono ?_; rintro e1 w1 ⟨rfl, rfl⟩) | (refine HC2.out.mono ?_; rintro e1 w1 ⟨rfl, rfl⟩))
  go_loopg [7, 8, 33] n (fun gg s7 s8 s33 wx => ∃ (j : Nat) (s' : List UInt8) (N : List Fs.Nd) (T : List (List Fs.En)) (bv dv : Value), j ≤ n ∧ gg = n - j ∧ dv = s7 ∧ bv = s8 ∧ s33 = .int .i64 (j : Int) ∧ Hid (N.length = j ∧ T.length = j) ∧ Hid (∀ t ∈ T, ¬ Fs.Wide t) ∧ Hid (Fs.rdNs (n - j) s' N T = R) ∧ Hid (j + s'.length ≤ 4194304) ∧ Hid (RdS w wx b s' L N T bv dv))
  case atStart => exact ⟨0, s0, [], [], _, _, Nat.zero_le _, rfl, rfl, rfl, rfl, ⟨rfl, rfl⟩, fun _ q => absurd q List.not_mem_nil, HR0.out, (by show 0 + _ ≤ _; omega), HST.out⟩
  case round =>
    clear HC HC2 HST HR0
    obtain ⟨j, s', N, T, bv, dv, hj, rfl, rfl, rfl, rfl, hNT, hWd, hE, hL, hS⟩ := hrel
    have hjb : j ≤ 4194304 := by have := hL.out; omega
    by_cases hjn : j < n
    · have i1 : (j : Int) < (n : Int) := by omega
      have hRD := readNode_any s' b j wr hS.out.cur (by have := hL.out; omega)
      have hNj := hNT.out.1
      by_cases hbad : (Fs.rdN j s').1 = 0
      · have hto := Fs.rdN_to hbad
        have hlt := Fs.rdN_lt hbad
        have hE2 : ¬ Fs.Wide (Fs.ent T (Fs.rdN j s').2.1) → Fs.rdNs (n - (j + 1)) (Fs.rdN j s').2.2 (N ++ [(Fs.rdN j s').2.1]) (T ++ [Fs.ent T (Fs.rdN j s').2.1]) = R := fun h => by
          have hE := hE.out
          rw [show n - j = (n - (j + 1)) + 1 by omega, Fs.rdNs_ok (by rw [hNj]; exact hbad) (by rw [hNj]; exact h), hNj] at hE
          exact hE
        have hE3 : Fs.Wide (Fs.ent T (Fs.rdN j s').2.1) → R.1 = 3 := fun h => by
          have hE := hE.out
          rw [show n - j = (n - (j + 1)) + 1 by omega, Fs.rdNs_wide (by rw [hNj]; exact hbad) (by rw [hNj]; exact h)] at hE
          rw [← hE]
        unfold RdPost at hRD
        rw [hbad] at hRD
        generalize (Fs.rdN j s').2.1 = d at *
        generalize (Fs.rdN j s').2.2 = s2 at *
        obtain ⟨t, ht⟩ : ∃ t, t = Fs.ent T d := ⟨_, rfl⟩
        rw [← ht] at hE2 hE3
        obtain ⟨f1, hf1⟩ : ∃ f1, f1 = d.1.isSome := ⟨_, rfl⟩
        obtain ⟨o1, ho1⟩ : ∃ o1, o1 = d.1.getD 0 := ⟨_, rfl⟩
        obtain ⟨nw, hnw⟩ : ∃ nw, nw = d.2.length := ⟨_, rfl⟩
        obtain ⟨tl, htl⟩ : ∃ tl, tl = t.length := ⟨_, rfl⟩
        obtain ⟨dp, hdp⟩ : ∃ dp, dp = Fs.deep t := ⟨_, rfl⟩
        have HTL := Lib.hid htl
        have HDP := Lib.hid hdp
        have HTT := Lib.hid ht
        have HTO := Lib.hid hto
        have HLT := Lib.hid hlt
        have HE2 := Lib.hid hE2
        have HE3 := Lib.hid hE3
        obtain ⟨ab, cb, rfl⟩ : ∃ a c, bv = .slice a j c := by
          obtain ⟨a, c, h1, _⟩ := own_form hS.out.rst
          rw [List.length_map, hNT.out.2] at h1
          exact ⟨a, c, h1⟩
        have HRD : Hid (Calls Try.prog 51 #[.pointer (some ⟨b, 0, none⟩), .int .i64 (j : Int)] wr fun e w' => ∃ av cv, e = .returned (.tuple #[.agg #[.bool f1, .int .i64 o1, .slice av nw cv], .int .i64 0]) ∧ RdS w w' b s2 L N T (.slice ab j cb) dv ∧ OwnY w' w.heap.size (.slice av nw cv) d.2) := by
          refine hRD.mono ?_
          rintro e w' ⟨hk, ⟨h0, _⟩ | ⟨_, v, he, ho, hcu⟩⟩
          · exact absurd rfl h0
          · obtain ⟨av, cv, rfl, _⟩ := own_form ho
            rw [← hnw] at he ho
            rw [he, hf1, ho1]
            exact ⟨av, cv, rfl, hS.out.turn hk hcu, ownsRow_base ho hS.out.size⟩
        have HRS : Hid (∀ w1 av cv, RdS w w1 b s2 L N T (.slice ab j cb) dv → OwnY w1 w.heap.size (.slice av nw cv) d.2 → Calls Try.prog 52 #[.agg #[.bool f1, .int .i64 o1, .slice av nw cv], .slice ab j cb] (w1.alloc (.cells #[.bool f1, .int .i64 o1, .slice av nw cv] 51)) fun e w' => e = .returned (.agg #[.int .i32 (tl : Int), .int .i32 (dp : Int)]) ∧ RdS w w' b s2 L N T (.slice ab j cb) dv ∧ OwnY w' w.heap.size (.slice av nw cv) d.2 ∧ RowT 51 w' w1.heap.size #[.bool f1, .int .i64 o1, .slice av nw cv] ∧ KindK [81, 51, 55] w1 w') := fun w1 av cv h1 h2 => by
          have hb : Below w1.heap.size w1 (w1.alloc (.cells #[.bool f1, .int .i64 o1, .slice av nw cv] 51)) := (Below.refl _ _).alloc (Nat.le_refl _) _
          have h3 := h1.below hb
          have h4 : OwnY (w1.alloc (.cells #[.bool f1, .int .i64 o1, .slice av nw cv] 51)) w.heap.size (.slice av nw cv) d.2 := World.ownsRow.alloc h2 _
          have hq := restsN_any _ d (.slice av nw cv) (.slice ab j cb) T h4.ways h3.rst.rst hto.2.1 (by rw [hNT.out.2]; exact hto.1) hWd.out
          rw [← ht, ← htl, ← hdp, ← hf1, ← ho1] at hq
          refine hq.mono ?_
          rintro e w' ⟨rfl, hb2⟩
          refine ⟨rfl, h3.below hb2, ownsRow_keep h4 fun k hk => hb2.block k (own_kind h4 k hk).2.1, RowT.keep (Go.Deep.blk_alloc_new _ _) (hb2.block _ (by simp)), KindK.of_below (hb.trans (hb2.mono (by simp)))⟩
        have HPU : Hid (∀ w4 w5 g cap, RdS w w4 b s2 L N T (.slice ab j cb) dv → w5.ownsRow w.heap.size 108 2 (.slice (some ⟨g, 0, none⟩) (j + 1) cap) (j + 1) (rsV (T.map Fs.num) ++ [.int .i32 (tl : Int), .int .i32 (dp : Int)]) → Grew w4 w5 (.slice ab j cb) (.slice (some ⟨g, 0, none⟩) (j + 1) cap) → CurT w5 b s2 ∧ KeptF (fun k => k = b) w w5 ∧ OwnR w5 w.heap.size (.slice (some ⟨g, 0, none⟩) (j + 1) cap) ((T ++ [t]).map Fs.num) ∧ DicO w.heap.size w5 L N T dv ∧ KindK [81, 51, 55] w4 w5) := fun w4 w5 g cap h1 h2 h3 => by
          rw [htl, hdp] at h2
          exact h1.push hNT.out.2.symm h2 h3
        have HOW : Hid (∀ w4, RdS w w4 b s2 L N T (.slice ab j cb) dv → w4.ownsRow w.heap.size 108 2 (.slice ab j cb) j (rsV (T.map Fs.num))) := fun w4 h => by
          have h1 := h.rst
          unfold OwnR at h1
          rw [List.length_map, hNT.out.2] at h1
          exact h1
        have HFAR : Hid (∀ w3 w5 v', RdS w w3 b s2 L N T (.slice ab j cb) dv → Grew (w3.alloc (.cells #[.int .i32 (tl : Int), .int .i32 (dp : Int)] 108)) w5 (.slice ab j cb) v' → RowT 108 w5 w3.heap.size #[.int .i32 (tl : Int), .int .i32 (dp : Int)]) := fun w3 w5 v' h hg => by
          refine RowT.keep (Go.Deep.blk_alloc_new _ _) (hg.far (by simp) fun q => ?_)
          have := (own_kind h.rst _ q).2.1
          omega
        have HLF : Hid (∀ (w3 : World) (c : Obj), RdS w w3 b s2 L N T (.slice ab j cb) dv → RdS w (w3.alloc c) b s2 L N T (.slice ab j cb) dv) := fun w3 c h => h.below ((Below.refl _ _).alloc (Nat.le_refl _) _)
        obtain ⟨iR, hiR, hyR0, hyR1, hyR2⟩ := info_parts Try.infoR
        by_cases hw1 : 65536 < tl
        · have HR3 : Hid (R.1 = 3) := hE3 (.inl (by rw [← htl]; exact hw1))
          have j1 : (65536 : Int) < (tl : Int) := by omega
          clear hRD hbad hto hlt hE2 hE3 ht htl hdp hf1 ho1 hnw hE hNj hWd hNT hS hL
          go_wp2_with (first | (go_at_call 51; go_loud ((refine HRD.out.mono ?_; rintro e1 w1 ⟨av, cv, rfl, hs1, hy1⟩; have HS1 := Lib.hid hs1; have HY1 := Lib.hid hy1; clear hs1 hy1))) | (go_at_call 52; go_loud ((refine (HRS.out w1 av cv HS1.out HY1.out).mono ?_; rintro e3 w3 ⟨rfl, hs3, hy3, hn3, hk3⟩; have HK3 := Lib.hid hk3; have HS3 := Lib.hid hs3; have HY3 := Lib.hid hy3; have HN3 := Lib.hid hn3; clear hs3 hy3 hn3 hk3))))
          try rw [Exit.noGoto_ret]
          go_ret2
          exact ⟨(HLF.out w3 _ HS3.out).kept, .inl ⟨by rw [HR3.out]; decide, by rw [HR3.out]; rfl⟩⟩
        · have j1 : ¬ (65536 : Int) < (tl : Int) := by omega
          by_cases hw2 : 64 < dp
          · have HR3 : Hid (R.1 = 3) := hE3 (.inr (by rw [← hdp]; exact hw2))
            have j2 : (64 : Int) < (dp : Int) := by omega
            clear hRD hbad hto hlt hE2 hE3 ht htl hdp hf1 ho1 hnw hE hNj hWd hNT hS hL
            go_wp2_with (first | (go_at_call 51; go_loud ((refine HRD.out.mono ?_; rintro e1 w1 ⟨av, cv, rfl, hs1, hy1⟩; have HS1 := Lib.hid hs1; have HY1 := Lib.hid hy1; clear hs1 hy1))) | (go_at_call 52; go_loud ((refine (HRS.out w1 av cv HS1.out HY1.out).mono ?_; rintro e3 w3 ⟨rfl, hs3, hy3, hn3, hk3⟩; have HK3 := Lib.hid hk3; have HS3 := Lib.hid hs3; have HY3 := Lib.hid hy3; have HN3 := Lib.hid hn3; clear hs3 hy3 hn3 hk3))))
            try rw [Exit.noGoto_ret]
            go_ret2
            exact ⟨(HLF.out w3 _ HS3.out).kept, .inl ⟨by rw [HR3.out]; decide, by rw [HR3.out]; rfl⟩⟩
          · have j2 : ¬ (64 : Int) < (dp : Int) := by omega
            have hnw3 : ¬ Fs.Wide t := by
              unfold Fs.Wide
              omega
            have HE4 := Lib.hid (hE2 hnw3)
            have HW4 : Hid (∀ x ∈ T ++ [t], ¬ Fs.Wide x) := fun x hx => by
              rcases List.mem_append.1 hx with q | q
              · exact hWd.out x q
              · rw [List.mem_singleton.1 q]; exact hnw3
            have HNT4 : Hid ((N ++ [d]).length = j + 1 ∧ (T ++ [t]).length = j + 1) := by
              show _ ∧ _
              rw [List.length_append, List.length_append, hNT.out.1, hNT.out.2]
              exact ⟨rfl, rfl⟩
            have HL4 : Hid (j + 1 + s2.length ≤ 4194304) := by
              have := hL.out
              show _ ≤ _
              omega
            have hdic := hS.out.dic
            have HNW3 := Lib.hid hnw3
            have HLT0 := Lib.hid hS.out.lt
            have jq : ((j : Int) == 4194305) = false := by
              rw [beq_eq_false_iff_ne]
              omega
            have hbj : j + 1 ≤ 140737488355328 := by omega
            have hbj2 : (j + 1) * 8 ≤ 140737488355328 := by omega
            rcases hdic with ⟨rfl, hemp⟩ | ⟨db, nv, rfl, hdb, -, -, hRel⟩
            · by_cases ht0 : t = []
              case' pos =>
                have q0 : ((tl : Int) == 0) = true := by rw [htl, ht0]; rfl
              case' neg =>
                have q0 : ((tl : Int) == 0) = false := by
                  have := List.length_pos_iff.2 ht0
                  rw [beq_eq_false_iff_ne]
                  omega
              all_goals
                clear hRD hbad hto hlt hE2 hE3 ht htl hdp hf1 ho1 hnw hE hNj hWd hNT hS hL hnw3 ht0 hemp hw1 hw2
                go_wp2_with (first | (go_at_call 51; go_loud ((refine HRD.out.mono ?_; rintro e1 w1 ⟨av, cv, rfl, hs1, hy1⟩; have HS1 := Lib.hid hs1; have HY1 := Lib.hid hy1; clear hs1 hy1))) | (go_at_call 52; go_loud ((refine (HRS.out w1 av cv HS1.out HY1.out).mono ?_; rintro e3 w3 ⟨rfl, hs3, hy3, hn3, hk3⟩; have HK3 := Lib.hid hk3; have HS3 := Lib.hid hs3; have HY3 := Lib.hid hy3; have HN3 := Lib.hid hn3; have HS4 := Lib.hid (HLF.out w3 (.cells #[.int .i32 (tl : Int), .int .i32 (dp : Int)] 108) hs3); have hsz4 : w.heap.size ≤ (w3.alloc (.cells #[.int .i32 (tl : Int), .int .i32 (dp : Int)] 108)).heap.size := HS4.out.size; clear hs3 hy3 hn3 hk3))) | (at_builtin; go_loud ((refine wpList_pushR rfl _ _ 104 108 rfl iR _ 2 8 Try.underlying104 hiR hyR0 hyR1 hyR2 rfl (by decide) w.heap.size hsz4 (.slice ab j cb) j (rsV (T.map Fs.num)) rfl (HOW.out _ HS4.out) [.int .i32 (tl : Int), .int .i32 (dp : Int)] rfl (one_of rfl) (by rw [World.size_alloc]; rfl) hbj2 hbj ?_; intro g5 cap5 w5 hown5 hgr5; have HP5 := Lib.hid (HPU.out _ w5 g5 cap5 HS4.out hown5 hgr5); have hq5 := HFAR.out w3 w5 _ HS3.out hgr5; have HQ5 := Lib.hid hq5; have q5 : w5.cell? ⟨w3.heap.size, 0, none⟩ = some (.int .i32 (tl : Int)) := hq5.cell 0; have hn5 := RowT.kk (RowT.keep HN3.out (Go.Deep.blk_alloc_lt _ _ _ HN3.out.lt)) HP5.out.2.2.2.2 (by decide); have HN5 := Lib.hid hn5; have HY5 : Hid (OwnY w5 w.heap.size (.slice av nw cv) d.2) := ownsRow_kk (World.ownsRow.alloc HY3.out _) HP5.out.2.2.2.2 (by decide); clear hown5 hgr5 hq5 hn5))))
                have HFIN : Hid (RdS w w5 b s2 L (N ++ [d]) (T ++ [t]) (.slice (some ⟨g5, 0, none⟩) (j + 1) cap5) (.pointer none)) := ⟨HP5.out.1, HP5.out.2.1, HLT0.out, HP5.out.2.2.1, HP5.out.2.2.2.1.none_snoc⟩
                go_roundg (n - (j + 1))
                case rel => exact ⟨j + 1, s2, N ++ [d], T ++ [t], _, _, by omega, rfl, rfl, rfl, by go_num, HNT4, HW4, HE4, HL4, HFIN⟩
                case measure => omega
            · by_cases ht0 : t = []
              · have q0 : ((tl : Int) == 0) = true := by rw [htl, ht0]; rfl
                have HT0 := Lib.hid ht0
                clear hRD hbad hto hlt hE2 hE3 ht htl hdp hf1 ho1 hnw hE hNj hWd hNT hS hL hnw3 ht0 hRel hdb hw1 hw2
                go_wp2_with (first | (go_at_call 51; go_loud ((refine HRD.out.mono ?_; rintro e1 w1 ⟨av, cv, rfl, hs1, hy1⟩; have HS1 := Lib.hid hs1; have HY1 := Lib.hid hy1; clear hs1 hy1))) | (go_at_call 52; go_loud ((refine (HRS.out w1 av cv HS1.out HY1.out).mono ?_; rintro e3 w3 ⟨rfl, hs3, hy3, hn3, hk3⟩; have HK3 := Lib.hid hk3; have HS3 := Lib.hid hs3; have HY3 := Lib.hid hy3; have HN3 := Lib.hid hn3; have HS4 := Lib.hid (HLF.out w3 (.cells #[.int .i32 (tl : Int), .int .i32 (dp : Int)] 108) hs3); have hsz4 : w.heap.size ≤ (w3.alloc (.cells #[.int .i32 (tl : Int), .int .i32 (dp : Int)] 108)).heap.size := HS4.out.size; clear hs3 hy3 hn3 hk3))) | (at_builtin; go_loud ((refine wpList_pushR rfl _ _ 104 108 rfl iR _ 2 8 Try.underlying104 hiR hyR0 hyR1 hyR2 rfl (by decide) w.heap.size hsz4 (.slice ab j cb) j (rsV (T.map Fs.num)) rfl (HOW.out _ HS4.out) [.int .i32 (tl : Int), .int .i32 (dp : Int)] rfl (one_of rfl) (by rw [World.size_alloc]; rfl) hbj2 hbj ?_; intro g5 cap5 w5 hown5 hgr5; have HP5 := Lib.hid (HPU.out _ w5 g5 cap5 HS4.out hown5 hgr5); have hq5 := HFAR.out w3 w5 _ HS3.out hgr5; have HQ5 := Lib.hid hq5; have q5 : w5.cell? ⟨w3.heap.size, 0, none⟩ = some (.int .i32 (tl : Int)) := hq5.cell 0; have hn5 := RowT.kk (RowT.keep HN3.out (Go.Deep.blk_alloc_lt _ _ _ HN3.out.lt)) HP5.out.2.2.2.2 (by decide); have HN5 := Lib.hid hn5; have HY5 : Hid (OwnY w5 w.heap.size (.slice av nw cv) d.2) := ownsRow_kk (World.ownsRow.alloc HY3.out _) HP5.out.2.2.2.2 (by decide); clear hown5 hgr5 hq5 hn5))))
                have HFIN : Hid (RdS w w5 b s2 L (N ++ [d]) (T ++ [t]) (.slice (some ⟨g5, 0, none⟩) (j + 1) cap5) (.pointer none)) := ⟨HP5.out.1, HP5.out.2.1, HLT0.out, HP5.out.2.2.1, DicO.none_of HT0.out⟩
                go_roundg (n - (j + 1))
                case rel => exact ⟨j + 1, s2, N ++ [d], T ++ [t], _, _, by omega, rfl, rfl, rfl, by go_num, HNT4, HW4, HE4, HL4, HFIN⟩
                case measure => omega
              · have q0 : ((tl : Int) == 0) = false := by
                  have := List.length_pos_iff.2 ht0
                  rw [beq_eq_false_iff_ne]
                  omega
                have HT0 := Lib.hid ht0
                have HREL := Lib.hid hRel
                have HDB := Lib.hid hdb
                have HF1 := Lib.hid hf1
                have HO1 := Lib.hid ho1
                have HNW := Lib.hid hnw
                have HNJ := Lib.hid hNj
                clear hRD hbad hto hlt hE2 hE3 ht htl hdp hf1 ho1 hnw hE hNj hWd hNT hS hL hnw3 ht0 hRel hdb hw1 hw2
                go_wp2_with (first | (go_at_call 51; go_loud ((refine HRD.out.mono ?_; rintro e1 w1 ⟨av, cv, rfl, hs1, hy1⟩; have HS1 := Lib.hid hs1; have HY1 := Lib.hid hy1; clear hs1 hy1))) | (go_at_call 52; go_loud ((refine (HRS.out w1 av cv HS1.out HY1.out).mono ?_; rintro e3 w3 ⟨rfl, hs3, hy3, hn3, hk3⟩; have HK3 := Lib.hid hk3; have HS3 := Lib.hid hs3; have HY3 := Lib.hid hy3; have HN3 := Lib.hid hn3; have HS4 := Lib.hid (HLF.out w3 (.cells #[.int .i32 (tl : Int), .int .i32 (dp : Int)] 108) hs3); have hsz4 : w.heap.size ≤ (w3.alloc (.cells #[.int .i32 (tl : Int), .int .i32 (dp : Int)] 108)).heap.size := HS4.out.size; clear hs3 hy3 hn3 hk3))) | (at_builtin; go_loud ((refine wpList_pushR rfl _ _ 104 108 rfl iR _ 2 8 Try.underlying104 hiR hyR0 hyR1 hyR2 rfl (by decide) w.heap.size hsz4 (.slice ab j cb) j (rsV (T.map Fs.num)) rfl (HOW.out _ HS4.out) [.int .i32 (tl : Int), .int .i32 (dp : Int)] rfl (one_of rfl) (by rw [World.size_alloc]; rfl) hbj2 hbj ?_; intro g5 cap5 w5 hown5 hgr5; have HP5 := Lib.hid (HPU.out _ w5 g5 cap5 HS4.out hown5 hgr5); have hq5 := HFAR.out w3 w5 _ HS3.out hgr5; have HQ5 := Lib.hid hq5; have q5 : w5.cell? ⟨w3.heap.size, 0, none⟩ = some (.int .i32 (tl : Int)) := hq5.cell 0; have hn5 := RowT.kk (RowT.keep HN3.out (Go.Deep.blk_alloc_lt _ _ _ HN3.out.lt)) HP5.out.2.2.2.2 (by decide); have HN5 := Lib.hid hn5; have HY5 : Hid (OwnY w5 w.heap.size (.slice av nw cv) d.2) := ownsRow_kk (World.ownsRow.alloc HY3.out _) HP5.out.2.2.2.2 (by decide); clear hown5 hgr5 hq5 hn5))))
                have hK35 : KindK [81, 51, 55] w1 w5 := (HK3.out.trans (KindK.of_below ((Below.refl _ _).alloc (Nat.le_refl _) _))).trans HP5.out.2.2.2.2
                have hHD : ∃ nv vs c, RowT 81 w1 db #[nv, .int .i64 L, c] ∧ vs.length = N.length ∧ w1.ownsRow w.heap.size 51 3 nv N.length (ndV N vs) ∧ ∀ i (h : i < N.length) (h' : i < vs.length), OwnY w1 w.heap.size vs[i] N[i].2 := by
                  rcases HS1.out.dic with ⟨q, _⟩ | ⟨db', nv, q, _, hrow1, ⟨vs, hl, ho1, hy1⟩, _⟩
                  · cases q
                  · obtain rfl : db = db' := by simpa using q
                    exact ⟨nv, vs, _, hrow1, hl, ho1, hy1⟩
                obtain ⟨nv, vs, c, hrow1, hl, ho1, hy1⟩ := hHD
                have hnb : ∀ k, nv.ownBlock = some k → k < w1.heap.size := fun k hk => (own_kind ho1 k hk).2.1
                have hrow5 : RowT 81 w5 db #[nv, .int .i64 L, c] := hrow1.kk hK35 (by decide)
                have ho5 : w5.ownsRow w.heap.size 51 3 nv N.length (ndV N vs) := ownsRow_kk ho1 hK35 (by decide)
                have hy5 : ∀ i (h : i < N.length) (h' : i < vs.length), OwnY w5 w.heap.size vs[i] N[i].2 := fun i h h' => ownsRow_kk (hy1 i h h') hK35 (by decide)
                obtain ⟨an, cn, hnv, _⟩ := own_form ho5
                subst hnv
                have hsz5 : w.heap.size ≤ w5.heap.size := HP5.out.2.1.size
                have hlt13 : w1.heap.size < w3.heap.size := HN3.out.lt
                have hltn := HN5.out.lt
                have hltr := HQ5.out.lt
                have hltd := hrow5.lt
                have hne1 : w1.heap.size ≠ db := by
                  intro e
                  have h1 := HN5.out
                  rw [e] at h1
                  have := kind_inj h1 hrow5
                  revert this
                  decide
                have hne2 : w3.heap.size ≠ db := by
                  intro e
                  have h1 := HQ5.out
                  rw [e] at h1
                  have := kind_inj h1 hrow5
                  revert this
                  decide
                have HPT : Hid (∀ w6 g cap, w6.ownsRow w.heap.size 51 3 (.slice (some ⟨g, 0, none⟩) (N.length + 1) cap) (N.length + 1) (ndV N vs ++ [.bool f1, .int .i64 o1, .slice av nw cv]) → Grew w5 w6 (.slice an N.length cn) (.slice (some ⟨g, 0, none⟩) (N.length + 1) cap) → (w6.cell? ⟨db, 0, none⟩ = some (.slice an N.length cn) ∧ w6.frozen? ⟨db, 0, none⟩ = false ∧ (w6.setCell ⟨db, 0, none⟩ (.slice (some ⟨g, 0, none⟩) (N.length + 1) cap)).cell? ⟨db, 2, none⟩ = some c ∧ (w6.setCell ⟨db, 0, none⟩ (.slice (some ⟨g, 0, none⟩) (N.length + 1) cap)).frozen? ⟨db, 2, none⟩ = false) ∧
                    RdS w ((w6.setCell ⟨db, 0, none⟩ (.slice (some ⟨g, 0, none⟩) (N.length + 1) cap)).setCell ⟨db, 2, none⟩ (.int .i64 (tl : Int))) b s2 L (N ++ [d]) (T ++ [t]) (.slice (some ⟨g5, 0, none⟩) (j + 1) cap5) (.pointer (some ⟨db, 0, none⟩))) := fun w6 g cap h1 h2 => by
                  rw [HF1.out, HO1.out] at h1
                  rw [HTL.out]
                  exact RdS.put HP5.out.1 HP5.out.2.1 HLT0.out HP5.out.2.2.1 hrow5 HDB.out hl ho5 hy5 HREL.out HY5.out (by rw [HNJ.out]; exact HTO.out.1) HNW3.out HT0.out HTT.out h1 h2
                have d7 : w5.cell? ⟨db, 0, none⟩ = some (.slice an N.length cn) := hrow5.cell 0
                have b0 : w5.cell? ⟨w1.heap.size, 0, none⟩ = some (.bool f1) := HN5.out.cell 0
                have b1 : w5.cell? ⟨w1.heap.size, 1, none⟩ = some (.int .i64 o1) := HN5.out.cell 1
                have b2 : w5.cell? ⟨w1.heap.size, 2, none⟩ = some (.slice av nw cv) := HN5.out.cell 2
                have HSA : Hid (∀ W : World, W.heap[w1.heap.size]? = w5.heap[w1.heap.size]? → W.heap[w3.heap.size]? = w5.heap[w3.heap.size]? → W.cell? ⟨w1.heap.size, 0, none⟩ = some (.bool f1) ∧ W.cell? ⟨w1.heap.size, 1, none⟩ = some (.int .i64 o1) ∧ W.cell? ⟨w1.heap.size, 2, none⟩ = some (.slice av nw cv) ∧ W.cell? ⟨w3.heap.size, 0, none⟩ = some (.int .i32 (tl : Int))) := fun W e1 e2 => by
                  have r1 := RowT.keep HN5.out e1
                  have r2 := RowT.keep HQ5.out e2
                  exact ⟨r1.cell 0, r1.cell 1, r1.cell 2, r2.cell 0⟩
                have hq := HSA.out ((w5.alloc (.cells #[.bool f1, .int .i64 o1, .slice av nw cv] 51)).drew) (Go.Deep.blk_alloc_lt _ _ _ hltn) (Go.Deep.blk_alloc_lt _ _ _ hltr)
                have g7 : ((w5.alloc (.cells #[.bool f1, .int .i64 o1, .slice av nw cv] 51)).drew).cell? ⟨db, 0, none⟩ = some (.slice an N.length cn) := (RowT.keep (w' := (w5.alloc (.cells #[.bool f1, .int .i64 o1, .slice av nw cv] 51)).drew) hrow5 (Go.Deep.blk_alloc_lt _ _ _ hltd)).cell 0
                have hBE : Hid (Below w5.heap.size w5 ((w5.alloc (.cells #[.bool f1, .int .i64 o1, .slice av nw cv] 51)).drew)) := ((Below.refl _ _).alloc (Nat.le_refl _) _).drew
                have hnw : Hid (∀ j u, [Value.bool f1, .int .i64 o1, .slice av nw cv][j]? = some u → ((w5.alloc (.cells #[.bool f1, .int .i64 o1, .slice av nw cv] 51)).drew).cell? ((⟨w5.heap.size, 0, none⟩ : Addr).add j) = some u) := fun j u h => new_cells w5 [Value.bool f1, .int .i64 o1, .slice av nw cv] 51 j u h
                have hwt : IntKind.i64.wrap (tl : Int) = (tl : Int) := IntWalk.i64_in _ (by omega)
                have HNB := Lib.hid hnb
                have HO5 := Lib.hid ho5
                obtain ⟨iN, hiN, hyN0, hyN1, hyN2⟩ := info_parts Try.infoN
                have hbN : N.length + 1 ≤ 140737488355328 := by rw [HNJ.out]; omega
                have hbN2 : (N.length + 1) * 40 ≤ 140737488355328 := by rw [HNJ.out]; omega
                clear hK35 hrow1 hl ho1 hy1 hnb hrow5 ho5 hy5
                refine wp_region_held_drew (S := fun wx => wx.cell? ⟨w1.heap.size, 0, none⟩ = some (.bool f1) ∧ wx.cell? ⟨w1.heap.size, 1, none⟩ = some (.int .i64 o1) ∧ wx.cell? ⟨w1.heap.size, 2, none⟩ = some (.slice av nw cv) ∧ wx.cell? ⟨w3.heap.size, 0, none⟩ = some (.int .i32 (tl : Int))) (by kernel_rfl) ⟨b0, b1, b2, q5⟩ (fun hHeld => ?_)
                refine wpAnyH_take (i := 0) (fuel := 17) (oi := ⟨_, _, _, _, _, _⟩) (v := ?_) rfl (by kernel_rfl) (by kernel_rfl) (by kernel_rfl) (fun _ _ _ h => h) (Or.inl ⟨by rfl, ?_⟩) (by assumption) ?_
                rotate_left
                · intro w _
                  first | (go_simp; done) | (go_simp; with_reducible rfl)
                simp only [Act.put, List.setIfInBounds_toArray, List.set_cons_zero, List.set_cons_succ]
                refine wpAnyH_take (i := 1) (fuel := 16) (oi := ⟨_, _, _, _, _, _⟩) (v := ?_) rfl (by kernel_rfl) (by kernel_rfl) (by kernel_rfl) (fun _ _ _ h => h) (Or.inl ⟨by rfl, ?_⟩) (by assumption) ?_
                rotate_left
                · intro w _
                  first | (go_simp; done) | (go_simp; with_reducible rfl)
                simp only [Act.put, List.setIfInBounds_toArray, List.set_cons_zero, List.set_cons_succ]
                refine wpAnyH_take (i := 2) (fuel := 15) (oi := ⟨_, _, _, _, _, _⟩) (v := ?_) rfl (by kernel_rfl) (by kernel_rfl) (by kernel_rfl) (fun _ _ _ h => h) (Or.inl ⟨by rfl, ?_⟩) (by assumption) ?_
                rotate_left
                · intro w _
                  first | (go_simp; done) | (go_simp; with_reducible rfl)
                simp only [Act.put, List.setIfInBounds_toArray, List.set_cons_zero, List.set_cons_succ]
                refine wpAnyH_take (i := 3) (fuel := 14) (oi := ⟨_, _, _, _, _, _⟩) (v := ?_) rfl (by kernel_rfl) (by kernel_rfl) (by kernel_rfl) (fun _ _ _ h => h) (Or.inl ⟨by rfl, ?_⟩) (by assumption) ?_
                rotate_left
                · intro w _
                  first | (go_simp; done) | (go_simp; with_reducible rfl)
                simp only [Act.put, List.setIfInBounds_toArray, List.set_cons_zero, List.set_cons_succ]
                refine wpAnyH_take (i := 4) (fuel := 13) (oi := ⟨_, _, _, _, _, _⟩) (v := ?_) rfl (by kernel_rfl) (by kernel_rfl) (by kernel_rfl) (fun _ _ _ h => h) (Or.inl ⟨by rfl, ?_⟩) (by assumption) ?_
                rotate_left
                · intro w _
                  first | (go_simp; done) | (go_simp; with_reducible rfl)
                simp only [Act.put, List.setIfInBounds_toArray, List.set_cons_zero, List.set_cons_succ]
                refine wpAnyH_take (i := 6) (fuel := 12) (oi := ⟨_, _, _, _, _, _⟩) (v := ?_) rfl (by kernel_rfl) (by kernel_rfl) (by kernel_rfl) (fun _ _ _ h => h) (Or.inl ⟨by rfl, ?_⟩) (by assumption) ?_
                rotate_left
                · intro w hSw
                  obtain ⟨h1, h2, h3, _⟩ := hSw
                  first | (go_simp; done) | (go_simp; with_reducible rfl)
                simp only [Act.put, List.setIfInBounds_toArray, List.set_cons_zero, List.set_cons_succ]
                refine wpAnyH_take (i := 9) (fuel := 11) (oi := ⟨_, _, _, _, _, _⟩) (v := ?_) rfl (by kernel_rfl) (by kernel_rfl) (by kernel_rfl) (fun _ _ _ h => h) (Or.inl ⟨by rfl, ?_⟩) (by assumption) ?_
                rotate_left
                · intro w _
                  first | (go_simp; done) | (go_simp; with_reducible rfl)
                simp only [Act.put, List.setIfInBounds_toArray, List.set_cons_zero, List.set_cons_succ]
                refine wpAnyH_take (i := 10) (fuel := 10) (oi := ⟨_, _, _, _, _, _⟩) (v := ?_) rfl (by kernel_rfl) (by kernel_rfl) (by kernel_rfl) (fun _ _ _ h => h) (Or.inl ⟨by rfl, ?_⟩) (by assumption) ?_
                rotate_left
                · intro w hSw
                  obtain ⟨_, _, _, h4⟩ := hSw
                  first | (go_simp; done) | (go_simp; with_reducible rfl)
                simp only [Act.put, List.setIfInBounds_toArray, List.set_cons_zero, List.set_cons_succ]
                refine wpAnyH_take (i := 11) (fuel := 9) (oi := ⟨_, _, _, _, _, _⟩) (v := ?_) rfl (by kernel_rfl) (by kernel_rfl) (by kernel_rfl) (fun _ _ _ h => h) (Or.inl ⟨by rfl, ?_⟩) (by assumption) ?_
                rotate_left
                · intro w _
                  first | (go_simp; done) | (go_simp; with_reducible rfl)
                simp only [Act.put, List.setIfInBounds_toArray, List.set_cons_zero, List.set_cons_succ]
                refine wpAnyH_ready (rs := [5, 7]) (by kernel_rfl) (by simp) ?_
                refine AllReadyH.cons (o := ⟨_, _, _, _, _, _⟩) rfl (fun K hK => ?_) ?_
                · go_simp
                  refine hK.out _ _ ⟨b0, b1, b2, q5⟩ (fun hHeld => ?_)
                  clear hK K
                  refine wpAnyH_ready (rs := [7]) (by kernel_rfl) (by simp) ?_
                  refine AllReadyH.cons (o := ⟨_, _, _, _, _, _⟩) rfl (fun K hK => ?_) AllReadyH.nil
                  go_simp
                  refine hK.out _ _ hq (fun hHeld => ?_)
                  clear hK K
                  refine wpAnyH_ready (rs := [8]) (by kernel_rfl) (by simp) ?_
                  refine AllReadyH.cons (o := ⟨_, _, _, _, _, _⟩) rfl (fun K hK => ?_) AllReadyH.nil
                  refine step_pushR (w := w5) (by rfl) _ _ 48 51 (by rfl) iN _ 3 40 Try.underlying48 hiN hyN0 hyN1 hyN2 rfl (by decide) w.heap.size hsz5 (.slice an N.length cn) N.length (ndV N vs) (by rfl) HO5.out hBE.out [.bool f1, .int .i64 o1, .slice av nw cv] rfl (one_of rfl) ⟨w5.heap.size, 0, none⟩ hnw.out (by rfl) hbN2 hbN ?_
                  intro g6 cap6 w6 hown6 hgr6
                  obtain ⟨⟨m0, m1, m2, m3⟩, hr6⟩ := HPT.out w6 g6 cap6 hown6 hgr6
                  have HR6 := Lib.hid hr6
                  have e1 : w6.heap[w1.heap.size]? = w5.heap[w1.heap.size]? := hgr6.far hltn (fun q => by have := HNB.out _ q; omega)
                  have e2 : w6.heap[w3.heap.size]? = w5.heap[w3.heap.size]? := hgr6.far hltr (fun q => by have := HNB.out _ q; omega)
                  have k0 := HSA.out w6 e1 e2
                  have e3 : (w6.setCell ⟨db, 0, none⟩ (.slice (some ⟨g6, 0, none⟩) (N.length + 1) cap6)).heap[w1.heap.size]? = w5.heap[w1.heap.size]? := (heap_other _ _ _ _ _ hne1).trans e1
                  have e4 : (w6.setCell ⟨db, 0, none⟩ (.slice (some ⟨g6, 0, none⟩) (N.length + 1) cap6)).heap[w3.heap.size]? = w5.heap[w3.heap.size]? := (heap_other _ _ _ _ _ hne2).trans e2
                  have k1 := HSA.out _ e3 e4
                  have k2 := HSA.out ((w6.setCell ⟨db, 0, none⟩ (.slice (some ⟨g6, 0, none⟩) (N.length + 1) cap6)).setCell ⟨db, 2, none⟩ (.int .i64 (tl : Int))) ((heap_other _ _ _ _ _ hne1).trans e3) ((heap_other _ _ _ _ _ hne2).trans e4)
                  clear hown6 hgr6 hr6 e1 e2 e3 e4
                  refine hK.out _ _ k0 (fun hHeld => ?_)
                  clear hK K
                  simp only [Act.put, List.setIfInBounds_toArray, List.set_cons_zero, List.set_cons_succ]
                  refine wpAnyH_take (i := 12) (fuel := 5) (oi := ⟨_, _, _, _, _, _⟩) (v := ?_) rfl (by kernel_rfl) (by kernel_rfl) (by kernel_rfl) (fun _ _ _ h => h) (Or.inl ⟨by rfl, ?_⟩) (by assumption) ?_
                  rotate_left
                  · intro w _
                    first | (go_simp; done) | (go_simp; with_reducible rfl)
                  simp only [Act.put, List.setIfInBounds_toArray, List.set_cons_zero, List.set_cons_succ]
                  refine wpAnyH_take (i := 13) (fuel := 4) (oi := ⟨_, _, _, _, _, _⟩) (v := ?_) rfl (by kernel_rfl) (by kernel_rfl) (by kernel_rfl) (fun _ _ _ h => h) (Or.inl ⟨by rfl, ?_⟩) (by assumption) ?_
                  rotate_left
                  · intro w _
                    first | (go_simp; done) | (go_simp; with_reducible rfl)
                  simp only [Act.put, List.setIfInBounds_toArray, List.set_cons_zero, List.set_cons_succ]
                  refine wpAnyH_ready (rs := [14]) (by kernel_rfl) (by simp) ?_
                  refine AllReadyH.cons (o := ⟨_, _, _, _, _, _⟩) rfl (fun K hK => ?_) AllReadyH.nil
                  go_simp
                  refine hK.out _ _ k1 (fun hHeld => ?_)
                  clear hK K
                  refine wpAnyH_take (i := 15) (fuel := 2) (oi := ⟨_, _, _, _, _, _⟩) (v := ?_) rfl (by kernel_rfl) (by kernel_rfl) (by kernel_rfl) (fun _ _ _ h => h) (Or.inl ⟨by rfl, ?_⟩) (by assumption) ?_
                  rotate_left
                  · intro w _
                    first | (go_simp; done) | (go_simp; with_reducible rfl)
                  simp only [Act.put, List.setIfInBounds_toArray, List.set_cons_zero, List.set_cons_succ]
                  refine wpAnyH_take (i := 16) (fuel := 1) (oi := ⟨_, _, _, _, _, _⟩) (v := ?_) rfl (by kernel_rfl) (by kernel_rfl) (by kernel_rfl) (fun _ _ _ h => h) (Or.inl ⟨by rfl, ?_⟩) (by assumption) ?_
                  rotate_left
                  · intro w _
                    first | (go_simp; done) | (go_simp; with_reducible rfl)
                  simp only [Act.put, List.setIfInBounds_toArray, List.set_cons_zero, List.set_cons_succ]
                  refine wpAnyH_ready (rs := [17]) (by kernel_rfl) (by simp) ?_
                  refine AllReadyH.cons (o := ⟨_, _, _, _, _, _⟩) rfl (fun K hK => ?_) AllReadyH.nil
                  go_simp
                  refine hK.out _ _ k2 (fun hHeld => ?_)
                  clear hK K
                  refine wpAnyH_done (by kernel_rfl) ?_ _
                  clear k0 k1 k2 m0 m1 m2 m3 d7 g7 hq b0 b1 b2 q5
                  go_wp2_with fail
                  go_roundg (n - (j + 1))
                  case rel => exact ⟨j + 1, s2, N ++ [d], T ++ [t], _, _, by omega, rfl, rfl, rfl, by go_num, HNT4, HW4, HE4, HL4, HR6⟩
                  case measure => omega
                refine AllReadyH.cons (o := ⟨_, _, _, _, _, _⟩) rfl (fun K hK => ?_) AllReadyH.nil
                go_simp
                refine hK.out _ _ hq (fun hHeld => ?_)
                clear hK K
                refine wpAnyH_ready (rs := [5]) (by kernel_rfl) (by simp) ?_
                refine AllReadyH.cons (o := ⟨_, _, _, _, _, _⟩) rfl (fun K hK => ?_) AllReadyH.nil
                go_simp
                refine hK.out _ _ hq (fun hHeld => ?_)
                clear hK K
                refine wpAnyH_ready (rs := [8]) (by kernel_rfl) (by simp) ?_
                refine AllReadyH.cons (o := ⟨_, _, _, _, _, _⟩) rfl (fun K hK => ?_) AllReadyH.nil
                refine step_pushR (w := w5) (by rfl) _ _ 48 51 (by rfl) iN _ 3 40 Try.underlying48 hiN hyN0 hyN1 hyN2 rfl (by decide) w.heap.size hsz5 (.slice an N.length cn) N.length (ndV N vs) (by rfl) HO5.out hBE.out [.bool f1, .int .i64 o1, .slice av nw cv] rfl (one_of rfl) ⟨w5.heap.size, 0, none⟩ hnw.out (by rfl) hbN2 hbN ?_
                intro g6 cap6 w6 hown6 hgr6
                obtain ⟨⟨m0, m1, m2, m3⟩, hr6⟩ := HPT.out w6 g6 cap6 hown6 hgr6
                have HR6 := Lib.hid hr6
                have e1 : w6.heap[w1.heap.size]? = w5.heap[w1.heap.size]? := hgr6.far hltn (fun q => by have := HNB.out _ q; omega)
                have e2 : w6.heap[w3.heap.size]? = w5.heap[w3.heap.size]? := hgr6.far hltr (fun q => by have := HNB.out _ q; omega)
                have k0 := HSA.out w6 e1 e2
                have e3 : (w6.setCell ⟨db, 0, none⟩ (.slice (some ⟨g6, 0, none⟩) (N.length + 1) cap6)).heap[w1.heap.size]? = w5.heap[w1.heap.size]? := (heap_other _ _ _ _ _ hne1).trans e1
                have e4 : (w6.setCell ⟨db, 0, none⟩ (.slice (some ⟨g6, 0, none⟩) (N.length + 1) cap6)).heap[w3.heap.size]? = w5.heap[w3.heap.size]? := (heap_other _ _ _ _ _ hne2).trans e2
                have k1 := HSA.out _ e3 e4
                have k2 := HSA.out ((w6.setCell ⟨db, 0, none⟩ (.slice (some ⟨g6, 0, none⟩) (N.length + 1) cap6)).setCell ⟨db, 2, none⟩ (.int .i64 (tl : Int))) ((heap_other _ _ _ _ _ hne1).trans e3) ((heap_other _ _ _ _ _ hne2).trans e4)
                clear hown6 hgr6 hr6 e1 e2 e3 e4
                refine hK.out _ _ k0 (fun hHeld => ?_)
                clear hK K
                simp only [Act.put, List.setIfInBounds_toArray, List.set_cons_zero, List.set_cons_succ]
                refine wpAnyH_take (i := 12) (fuel := 5) (oi := ⟨_, _, _, _, _, _⟩) (v := ?_) rfl (by kernel_rfl) (by kernel_rfl) (by kernel_rfl) (fun _ _ _ h => h) (Or.inl ⟨by rfl, ?_⟩) (by assumption) ?_
                rotate_left
                · intro w _
                  first | (go_simp; done) | (go_simp; with_reducible rfl)
                simp only [Act.put, List.setIfInBounds_toArray, List.set_cons_zero, List.set_cons_succ]
                refine wpAnyH_take (i := 13) (fuel := 4) (oi := ⟨_, _, _, _, _, _⟩) (v := ?_) rfl (by kernel_rfl) (by kernel_rfl) (by kernel_rfl) (fun _ _ _ h => h) (Or.inl ⟨by rfl, ?_⟩) (by assumption) ?_
                rotate_left
                · intro w _
                  first | (go_simp; done) | (go_simp; with_reducible rfl)
                simp only [Act.put, List.setIfInBounds_toArray, List.set_cons_zero, List.set_cons_succ]
                refine wpAnyH_ready (rs := [14]) (by kernel_rfl) (by simp) ?_
                refine AllReadyH.cons (o := ⟨_, _, _, _, _, _⟩) rfl (fun K hK => ?_) AllReadyH.nil
                go_simp
                refine hK.out _ _ k1 (fun hHeld => ?_)
                clear hK K
                refine wpAnyH_take (i := 15) (fuel := 2) (oi := ⟨_, _, _, _, _, _⟩) (v := ?_) rfl (by kernel_rfl) (by kernel_rfl) (by kernel_rfl) (fun _ _ _ h => h) (Or.inl ⟨by rfl, ?_⟩) (by assumption) ?_
                rotate_left
                · intro w _
                  first | (go_simp; done) | (go_simp; with_reducible rfl)
                simp only [Act.put, List.setIfInBounds_toArray, List.set_cons_zero, List.set_cons_succ]
                refine wpAnyH_take (i := 16) (fuel := 1) (oi := ⟨_, _, _, _, _, _⟩) (v := ?_) rfl (by kernel_rfl) (by kernel_rfl) (by kernel_rfl) (fun _ _ _ h => h) (Or.inl ⟨by rfl, ?_⟩) (by assumption) ?_
                rotate_left
                · intro w _
                  first | (go_simp; done) | (go_simp; with_reducible rfl)
                simp only [Act.put, List.setIfInBounds_toArray, List.set_cons_zero, List.set_cons_succ]
                refine wpAnyH_ready (rs := [17]) (by kernel_rfl) (by simp) ?_
                refine AllReadyH.cons (o := ⟨_, _, _, _, _, _⟩) rfl (fun K hK => ?_) AllReadyH.nil
                go_simp
                refine hK.out _ _ k2 (fun hHeld => ?_)
                clear hK K
                refine wpAnyH_done (by kernel_rfl) ?_ _
                clear k0 k1 k2 m0 m1 m2 m3 d7 g7 hq b0 b1 b2 q5
                go_wp2_with fail
                go_roundg (n - (j + 1))
                case rel => exact ⟨j + 1, s2, N ++ [d], T ++ [t], _, _, by omega, rfl, rfl, rfl, by go_num, HNT4, HW4, HE4, HL4, HR6⟩
                case measure => omega
      · have hE2 : R.1 = (Fs.rdN j s').1 := by
          have hE := hE.out
          rw [show n - j = (n - (j + 1)) + 1 by omega, Fs.rdNs_bad (by rw [hNj]; exact hbad), hNj] at hE
          rw [← hE]
        unfold RdPost at hRD
        have HRD : Hid (Calls Try.prog 51 #[.pointer (some ⟨b, 0, none⟩), .int .i64 (j : Int)] wr fun e w' => e = .returned (.tuple #[.agg #[.bool false, .int .i64 0, .slice none 0 0], .int .i64 R.1]) ∧ KeptF (fun k => k = b) w w') := by
          refine hRD.mono ?_
          rintro e w' ⟨hk, ⟨_, he⟩ | ⟨h0, _⟩⟩
          · rw [hE2]
            exact ⟨he, hS.out.kept.trans hk⟩
          · exact absurd h0 hbad
        have hR1 : ¬ R.1 = 0 := by rw [hE2]; exact hbad
        have HR1 := Lib.hid hR1
        obtain ⟨E, hEE⟩ : ∃ E, E = R.1 := ⟨_, rfl⟩
        have HEE := Lib.hid hEE
        rw [← hEE] at HRD hR1
        clear hRD hbad hE hE2 hEE hNj hWd hNT hS hL
        go_wp2_with (go_at_call 51; go_loud ((refine HRD.out.mono ?_; rintro e1 w1 ⟨rfl, hk1⟩; have HK1 := Lib.hid hk1; clear hk1)))
        try rw [Exit.noGoto_ret]
        go_ret2
        exact ⟨HK1.out.trans (KeptF.of_below ((Below.refl _ _).alloc (Nat.le_refl _) _)), .inl ⟨HR1.out, by first | rfl | (rw [HEE.out]; rfl)⟩⟩
    · obtain rfl : j = n := by omega
      have hE2 := hE.out
      rw [Nat.sub_self] at hE2
      have hE3 : (0, (N, T), s') = R := hE2
      have i1 : ¬ (j : Int) < (j : Int) := by omega
      have hdic := hS.out.dic
      have HS := Lib.hid hS.out
      have HE3 := Lib.hid hE3
      clear hS hE hE2 hE3 hNT hWd hL
      go_wp2_with fail
      try rw [Exit.noGoto_ret]
      go_ret2
      rw [← HE3.out]
      exact ⟨HS.out.kept, .inr ⟨rfl, _, rfl, HS.out.cur, hdic⟩⟩
end Go.Proofs.Ytdjiknakbldggaa

/-
  Get: a term's number by the ways.
-/
namespace Go.Proofs.Ytdjiknakbldggaa
open Go.RowKit Go.Maps

namespace Fs
def nd (N : List Nd) (i : Nat) : Nd := N.getD i (none, [])
def gt (N : List Nd) : List UInt8 → Nat → Int → Option Int
  | [], i, o => (nd N i).1.map fun v => wrap64 (o + v)
  | c :: r, i, o => match (nd N i).2.find? (fun w => w.1 == c) with
    | none => none
    | some w => gt N r w.2.2 (wrap64 (o + w.2.1))
theorem nd_at {N : List Nd} {i : Nat} (h : i < N.length) : nd N i = N[i] := by unfold nd; rw [List.getD_eq_getElem?_getD, List.getElem?_eq_getElem h]; rfl
theorem gt_none {N : List Nd} {c : UInt8} {r : List UInt8} {i : Nat} {o : Int} (h : (nd N i).2.find? (fun w => w.1 == c) = none) : gt N (c :: r) i o = none := by
  show (match (nd N i).2.find? (fun w => w.1 == c) with | none => none | some w => gt N r w.2.2 (wrap64 (o + w.2.1))) = _
  rw [h]
theorem gt_some {N : List Nd} {c : UInt8} {r : List UInt8} {i : Nat} {o : Int} {w : UInt8 × Int × Nat} (h : (nd N i).2.find? (fun w => w.1 == c) = some w) : gt N (c :: r) i o = gt N r w.2.2 (wrap64 (o + w.2.1)) := by
  show (match (nd N i).2.find? (fun w => w.1 == c) with | none => none | some w => gt N r w.2.2 (wrap64 (o + w.2.1))) = _
  rw [h]
theorem find_first {ws : List (UInt8 × Int × Nat)} {c : UInt8} : ∀ {j : Nat} (hj : j < ws.length), (∀ i (_ : i < ws.length), i < j → ws[i].1 ≠ c) → ws[j].1 = c → ws.find? (fun w => w.1 == c) = some ws[j] := by
  induction ws with
  | nil => intro j hj; exact absurd hj (Nat.not_lt_zero _)
  | cons w ws ih =>
    intro j hj h1 h2
    cases j with
    | zero =>
      have : w.1 = c := h2
      rw [List.find?_cons_of_pos (by simp [this])]
      rfl
    | succ j =>
      have h0 := h1 0 (by simp) (by omega)
      rw [List.find?_cons_of_neg (by simpa using h0)]
      exact ih (by simpa using hj) (fun i hi hij => h1 (i + 1) (by simpa using hi) (by omega)) h2
theorem find_never {ws : List (UInt8 × Int × Nat)} {c : UInt8} (h : ∀ i (_ : i < ws.length), ws[i].1 ≠ c) : ws.find? (fun w => w.1 == c) = none := by
  rw [List.find?_eq_none]
  intro x hx
  obtain ⟨i, hi, rfl⟩ := List.mem_iff_getElem.1 hx
  simpa using h i hi
end Fs
/-- What Get answers. -/
def GetPost (w : World) (r : Option Int) (e : Ending) (w' : World) : Prop := e = .returned (.tuple #[.int .i64 (r.getD 0), .bool r.isSome]) ∧ Below w.heap.size w w'
set_option maxRecDepth 100000 in
set_option maxHeartbeats 1000000 in
theorem get_nil (s : ByteArray) (w : World) : Calls Try.prog 18 #[.pointer none, .string s] w (GetPost w none) := by
  go_enter Try.func18, Try.ntmps18
  go_wp2_with fail
  go_step3
  go_wp2_with (go_at_call 20; refine (root_nil _).mono ?_; rintro e1 w1 ⟨rfl, rfl⟩)
  try rw [Exit.noGoto_ret]
  go_ret2
  exact ⟨rfl, Below.refl _ _⟩
set_option maxRecDepth 100000 in
set_option maxHeartbeats 1000000 in
theorem get_empty (s : ByteArray) (w : World) (db : Nat) (least : Int) (terms : Nat) (h : DicS w db [] least terms) : Calls Try.prog 18 #[.pointer (some ⟨db, 0, none⟩), .string s] w (GetPost w none) := by
  have HRO := Lib.hid (root_any w db [] least terms h)
  clear h
  go_enter Try.func18, Try.ntmps18
  go_wp2_with fail
  go_step3
  go_wp2_with (go_at_call 20; refine HRO.out.mono ?_; rintro e1 w1 ⟨rfl, hd⟩; have HB := Lib.hid hd.below; clear hd)
  try rw [Exit.noGoto_ret]
  go_ret2
  exact ⟨rfl, HB.out⟩
set_option maxRecDepth 100000 in
set_option maxHeartbeats 8000000 in
theorem get_any (s : List UInt8) (w : World) (db : Nat) (N : List Fs.Nd) (least : Int) (terms : Nat) (h : DicS w db N least terms) (hah : ∀ i (h : i < N.length), ∀ w ∈ N[i].2, w.2.2 < i) (hN : 0 < N.length) (hs : s.length ≤ 140737488355328) :
    Calls Try.prog 18 #[.pointer (some ⟨db, 0, none⟩), .string (bs s)] w (GetPost w (Fs.gt N s (N.length - 1) least)) := by
  have HRO := root_any w db N least terms h
  have HAH := Lib.hid hah
  obtain ⟨nv, hrow, an, cn, hnv, hcn, hcn2, hnc⟩ := h
  obtain ⟨gn, rfl, hgn, hcell⟩ := hnc hN
  subst hnv
  have hdb := hrow.lt
  have HC1 : Hid (∀ wx, Below w.heap.size w wx → wx.cell? ⟨db, 0, none⟩ = some (.slice (some ⟨gn, 0, none⟩) N.length cn)) := fun wx hb => (hb.cell (p := ⟨db, 0, none⟩) hdb).trans (hrow.cell 0)
  have HNC : Hid (∀ wx, Below w.heap.size w wx → ∀ i (_ : i < N.length), ∃ wv, WayS wx wv N[i].2 ∧ wx.cell? ⟨gn, i * 3, none⟩ = some (.bool N[i].1.isSome) ∧ wx.cell? ⟨gn, i * 3 + 1, none⟩ = some (.int .i64 (N[i].1.getD 0)) ∧ wx.cell? ⟨gn, i * 3 + 2, none⟩ = some wv) := fun wx hb i hi => by
    obtain ⟨wv, h1, h2, h3, h4⟩ := hcell i hi
    exact ⟨wv, h1.below hb (Nat.le_refl _), (hb.cell (p := ⟨gn, i * 3, none⟩) hgn).trans h2, (hb.cell (p := ⟨gn, i * 3 + 1, none⟩) hgn).trans h3, (hb.cell (p := ⟨gn, i * 3 + 2, none⟩) hgn).trans h4⟩
  obtain ⟨n, hn⟩ : ∃ n, N.length = n + 1 := ⟨N.length - 1, by omega⟩
  have HNN := Lib.hid hn
  rw [hn, show ((n + 1 : Nat) : Int) - 1 = (n : Int) by omega] at HRO
  rw [hn] at HC1 hcn
  rw [show N.length - 1 = n by omega]
  have HRO := Lib.hid HRO
  have hsz := bs_size s
  obtain ⟨m, hm⟩ : ∃ m, m = s.length := ⟨_, rfl⟩
  rw [← hm] at hsz hs
  have HMM := Lib.hid hm
  have HGET : Hid (∀ k (hk : k < (bs s).size) (hk' : k < s.length), (bs s)[k]'hk = s[k]'hk') := fun k hk hk' => bs_get s k hk hk'
  generalize bs s = S at *
  have i0 : ¬ (n : Int) < 0 := by omega
  clear hah hrow hcell hnc hgn hdb hn hN hm
  go_enter Try.func18, Try.ntmps18
  go_wp2_with fail
  go_step3
  go_wp2_with (go_at_call 20; refine HRO.out.mono ?_; rintro e1 w1 ⟨rfl, hd⟩; have HB := Lib.hid hd.below; clear hd)
  go_step3
  go_wp2_with fail
  go_loopg [6, 7, 21] m (fun gg s6 s7 s21 wx => ∃ (k i : Nat) (o : Int), k ≤ m ∧ gg = m - k ∧ s6 = .int .i64 (i : Int) ∧ s7 = .int .i64 o ∧ s21 = .int .i64 (k : Int) ∧ i ≤ n ∧ Hid (Fs.gt N (s.drop k) i o = Fs.gt N s n least) ∧ Hid (Below w.heap.size w wx))
  case atStart => exact ⟨0, n, least, by omega, rfl, rfl, rfl, rfl, Nat.le_refl _, rfl, HB.out⟩
  case round =>
    clear HB
    obtain ⟨k, i, o, hk, rfl, rfl, rfl, rfl, hi, hG, hB⟩ := hrel
    have iN : i < N.length := by have := HNN.out; omega
    have i2 : (i : Int) < ((n + 1 : Nat) : Int) := by omega
    have i3 : 0 ≤ (i : Int) := by omega
    have c1 := HC1.out wr hB.out
    obtain ⟨wv, hws, n0, n1, n2⟩ := HNC.out wr hB.out i iN
    by_cases hkm : k < m
    · have i1 : (k : Int) < (m : Int) := by omega
      have ks : k < s.length := by rw [← HMM.out]; exact hkm
      have kb : k < S.size := by omega
      obtain ⟨c, hc⟩ : ∃ c, c = s[k]'ks := ⟨_, rfl⟩
      have b1 : S[k]'kb = c := (HGET.out k kb ks).trans hc.symm
      have hG2 := hG.out
      have hdr : s.drop k = c :: s.drop (k + 1) := by subst hc; exact List.drop_eq_getElem_cons ks
      rw [hdr] at hG2
      have hcw64 : wrap64 (c.toNat : Int) = (c.toNat : Int) := by
        have := c.toNat_lt
        unfold wrap64
        omega
      have hND := Fs.nd_at iN
      have hah := HAH.out i iN
      obtain ⟨nd, hnd⟩ : ∃ nd, nd = N[i] := ⟨_, rfl⟩
      rw [← hnd] at hws n0 n1 hND hah
      obtain ⟨fin, ws⟩ := nd
      dsimp only at hws n0 n1 hah
      obtain ⟨aw, cw, rfl, hwc, hwm, hwr⟩ := hws
      have hwr2 : Hid (∀ wx, Below wr.heap.size wr wx → 0 < ws.length → ∃ g, aw = some ⟨g, 0, none⟩ ∧ ∀ i (_ : i < ws.length), wx.cell? ⟨g, i * 3, none⟩ = some (.int .i64 (ws[i].1.toNat : Nat)) ∧ wx.cell? ⟨g, i * 3 + 1, none⟩ = some (.int .i64 ws[i].2.1) ∧ wx.cell? ⟨g, i * 3 + 2, none⟩ = some (.int .i64 (ws[i].2.2 : Nat))) := fun wx hb h0 => by
        obtain ⟨g, h1, h2, h3⟩ := hwr h0
        exact ⟨g, h1, fun i hi => ⟨(hb.cell (p := ⟨g, i * 3, none⟩) h2).trans (h3 i hi).1, (hb.cell (p := ⟨g, i * 3 + 1, none⟩) h2).trans (h3 i hi).2.1, (hb.cell (p := ⟨g, i * 3 + 2, none⟩) h2).trans (h3 i hi).2.2⟩⟩
      have HND := Lib.hid hND
      have HG2 := Lib.hid hG2
      have HA := Lib.hid hah
      obtain ⟨nw, hnw⟩ : ∃ nw, nw = ws.length := ⟨_, rfl⟩
      rw [← hnw] at hwc n2
      have HNW := Lib.hid hnw
      have HBR := Lib.hid hB.out
      clear hdr hc hG hG2 hND hah hnd hwr hnw hB ks
      go_wp2_with fail
      go_loopg [6, 7, 33] nw (fun gg s6 s7 s33 wx => ∃ (j : Nat), j ≤ nw ∧ gg = nw - j ∧ s6 = .int .i64 (i : Int) ∧ s7 = .int .i64 o ∧ s33 = .int .i64 (j : Int) ∧ Hid (∀ i (_ : i < ws.length), i < j → ws[i].1 ≠ c) ∧ Hid (Below wr.heap.size wr wx))
      case atStart => exact ⟨0, by omega, rfl, rfl, rfl, rfl, fun i _ hi => by omega, Below.refl _ _⟩
      case round =>
        obtain ⟨j, hj, rfl, rfl, rfl, rfl, hS, hbx⟩ := hrel
        by_cases hjw : j < nw
        · have j1 : (j : Int) < (nw : Int) := by omega
          have jx : j < ws.length := by rw [← HNW.out]; exact hjw
          obtain ⟨gw, rfl, hcw⟩ := hwr2.out _ hbx.out (by omega)
          obtain ⟨w1, w2, w3⟩ := hcw j jx
          have hto := HA.out _ (List.getElem_mem jx)
          by_cases hdc : ws[j].1 = c
          · have hff := Fs.find_first jx hS.out hdc
            have hgo := HG2.out
            rw [Fs.gt_some (by rw [HND.out]; exact hff)] at hgo
            have HGO := Lib.hid hgo
            rw [hdc] at w1
            clear hff hgo hdc hS hcw
            generalize ws[j].2.1 = x at *
            generalize ws[j].2.2 = t at *
            have HBX := Lib.hid (HBR.out.trans (hbx.out.mono HBR.out.size))
            have hwx := wrapEq (o + x)
            clear hbx
            go_wp2_with fail
            go_quiet (fail)
            go_wp2_with fail
            go_quiet (fail)
            go_wp2_with fail
            go_roundg (m - (k + 1))
            case rel => exact ⟨k + 1, t, wrap64 (o + x), by omega, rfl, rfl, by first | rfl | rw [hwx], by go_num, by omega, HGO.out, by show Below _ _ _; first | exact HBX.out.alloc HBX.out.size _ | exact belowN (HBX.out.alloc HBX.out.size _) _ | exact belowN (belowN (HBX.out.alloc HBX.out.size _) _) _⟩
            case measure => omega
          · have hS2 : Hid (∀ i (_ : i < ws.length), i < j + 1 → ws[i].1 ≠ c) := fun i hi hij => by
              rcases Nat.lt_or_ge i j with q | q
              · exact hS.out i hi q
              · obtain rfl : i = j := by omega
                exact hdc
            have hne : ((ws[j].1.toNat : Int) == (c.toNat : Int)) = false := by
              rw [beq_eq_false_iff_ne]
              intro q
              exact hdc (UInt8.toNat_inj.1 (by omega))
            clear hdc hS hcw
            generalize ws[j].1 = d at *
            generalize ws[j].2.1 = x at *
            generalize ws[j].2.2 = t at *
            have HBX := Lib.hid hbx.out
            clear hbx
            go_wp2_with fail
            go_quiet (fail)
            go_wp2_with fail
            go_roundg (nw - (j + 1))
            case rel => exact ⟨j + 1, by omega, rfl, rfl, rfl, by go_num, hS2, by show Below _ _ _; first | exact HBX.out.alloc HBX.out.size _ | exact (HBX.out.alloc HBX.out.size _).drew | exact belowN (HBX.out.alloc HBX.out.size _) _⟩
            case measure => omega
        · obtain rfl : j = nw := by omega
          have j1 : ¬ (j : Int) < (j : Int) := by omega
          have hff := Fs.find_never (c := c) (ws := ws) fun i hi => hS.out i hi (by have := HNW.out; omega)
          have hgo := HG2.out
          rw [Fs.gt_none (by rw [HND.out]; exact hff)] at hgo
          have HGO := Lib.hid hgo
          have HBX := Lib.hid (HBR.out.trans (hbx.out.mono HBR.out.size))
          clear hff hgo hS hbx
          go_wp2_with fail
          try rw [Exit.noGoto_ret]
          go_ret2
          exact ⟨by rw [← HGO.out]; rfl, HBX.out⟩
    · obtain rfl : k = m := by omega
      have i1 : ¬ (k : Int) < (k : Int) := by omega
      have hG2 := hG.out
      rw [List.drop_of_length_le (by rw [← HMM.out]; exact Nat.le_refl _)] at hG2
      have hND := Fs.nd_at iN
      obtain ⟨nd, hnd⟩ : ∃ nd, nd = N[i] := ⟨_, rfl⟩
      rw [← hnd] at hws n0 n1 hND
      obtain ⟨fin, ws⟩ := nd
      dsimp only at hws n0 n1
      obtain ⟨aw, cw, rfl, -, -, -⟩ := hws
      have HBX := Lib.hid hB.out
      cases fin with
      | none =>
        have hgo : Hid (Fs.gt N s n least = none) := by
          show _ = _
          rw [← hG2]
          show (Fs.nd N i).1.map _ = _
          rw [hND]
          rfl
        clear hG hG2 hND hnd hB
        go_wp2_with fail
        try rw [Exit.noGoto_ret]
        go_ret2
        exact ⟨by rw [hgo.out]; rfl, HBX.out.alloc HBX.out.size _⟩
      | some v =>
        have hgo : Hid (Fs.gt N s n least = some (wrap64 (o + v))) := by
          show _ = _
          rw [← hG2]
          show (Fs.nd N i).1.map _ = _
          rw [hND]
          rfl
        have hwx := wrapEq (o + v)
        clear hG hG2 hND hnd hB
        go_wp2_with fail
        try rw [Exit.noGoto_ret]
        go_ret2
        exact ⟨by rw [hgo.out]; first | rfl | (rw [← hwx]; rfl), HBX.out.alloc HBX.out.size _⟩
end Go.Proofs.Ytdjiknakbldggaa

/-
  The statements' own small functions: three, find, light.
-/
namespace Go.Proofs.Ytdjiknakbldggaa
open Go.RowKit Go.Maps

/-- cat, dog, hat. -/
def threeL : List Fs.En := [([99, 97, 116], 5), ([100, 111, 103], 7), ([104, 97, 116], 3)]
set_option maxRecDepth 100000 in
set_option maxHeartbeats 1000000 in
theorem three_any (w : World) : Calls Try.prog 24 #[] w fun e w' => ∃ v, e = .returned v ∧ OwnE w' w.heap.size v threeL ∧ Below w.heap.size w w' := by
  go_enter Try.func24, Try.ntmps24
  go_wp2_with fail
  go_ret
  refine ⟨_, rfl, ⟨rfl, .inr ⟨w.heap.size, 3, _, rfl, Nat.le_refl _, Go.Deep.blk_alloc_new _ _, Nat.le_refl _, by decide, rfl, rfl⟩⟩, (Below.refl _ _).alloc (Nat.le_refl _) _⟩
/-- Whether terms are gone through in a moment. -/
def lightF (l : List Fs.En) : Bool := decide (l.length ≤ 120) && decide (((l.take 400).map fun e => e.1.length).sum ≤ 600)
set_option maxRecDepth 100000 in
set_option maxHeartbeats 4000000 in
theorem light_any (w : World) (v : Value) (l : List Fs.En) (h : EnS w v l) (hl : ∀ e ∈ l, e.1.length ≤ 140737488355328) : Calls Try.prog 9 #[v] w fun e w' => e = .returned (.bool (lightF l)) ∧ Below w.heap.size w w' := by
  obtain ⟨a, cap, rfl, hc, hcap, hcell⟩ := h
  obtain ⟨n, hn⟩ : ∃ n, n = l.length := ⟨_, rfl⟩
  have HN := Lib.hid hn
  have HL := Lib.hid hl
  have HC : Hid (∀ wx, Below w.heap.size w wx → 0 < l.length → ∃ g o, a = some ⟨g, o, none⟩ ∧ EnC wx g o l) := fun wx hb h0 => by
    obtain ⟨g, o, h1, h2, h3⟩ := hcell h0
    exact ⟨g, o, h1, h3.below hb h2⟩
  obtain ⟨R, hR⟩ : ∃ R, R = lightF l := ⟨_, rfl⟩
  rw [← hn] at hc ⊢
  rw [← hR]
  have HR := Lib.hid hR
  clear hn hl hcell hR
  go_enter Try.func9, Try.ntmps9
  go_wp2_with fail
  go_loopg [3, 4] (min n 400) (fun gg s3 s4 wx => ∃ (k t : Nat), k ≤ n ∧ k ≤ 400 ∧ gg = min n 400 - k ∧ s3 = .int .i64 (t : Int) ∧ s4 = .int .i64 (k : Int) ∧ t ≤ k * 140737488355328 ∧ Hid (t = ((l.take k).map fun e => e.1.length).sum) ∧ Hid (Below w.heap.size w wx))
  case atStart => exact ⟨0, 0, by omega, by omega, rfl, rfl, rfl, by omega, rfl, Below.refl _ _⟩
  case round =>
    obtain ⟨k, t, hk, hk4, rfl, rfl, rfl, ht, hS, hB⟩ := hrel
    by_cases hkn : k < n
    · have i1 : (k : Int) < (n : Int) := by omega
      by_cases hk5 : k < 400
      · have i2 : (k : Int) < 400 := by omega
        have kx : k < l.length := by rw [← HN.out]; exact hkn
        obtain ⟨g, o, rfl, hec⟩ := HC.out wr hB.out (by omega)
        have c1 := (hec k kx).1
        have hlen := HL.out _ (List.getElem_mem kx)
        have hsz := bs_size l[k].1
        have htk : l.take (k + 1) = l.take k ++ [l[k]] := List.take_succ_eq_append_getElem kx
        have hS2 : Hid (t + l[k].1.length = ((l.take (k + 1)).map fun e => e.1.length).sum) := by
          show _ = _
          rw [htk, List.map_append, List.sum_append, ← hS.out]
          simp
        have HBB := Lib.hid hB.out
        clear hec htk hS hB
        generalize bs l[k].1 = S at *
        generalize l[k].1.length = q at *
        have hw : IntKind.i64.wrap ((t : Int) + (q : Int)) = ((t + q : Nat) : Int) := by rw [IntWalk.i64_in _ (by omega)]; omega
        go_wp2_with fail
        try go_quiet (fail)
        try go_wp2_with fail
        go_roundg (min n 400 - (k + 1))
        case rel => exact ⟨k + 1, t + q, by omega, by omega, rfl, by go_num, by go_num, by omega, hS2, by show Below _ _ _; first | exact HBB.out | exact belowN HBB.out _ | exact belowN (belowN HBB.out _) _⟩
        case measure => omega
      · obtain rfl : k = 400 := by omega
        have i2 : ¬ (400 : Int) < 400 := by omega
        have hfin : Hid (lightF l = (decide (n ≤ 120) && decide (t ≤ 600))) := by show _ = _; unfold lightF; rw [← hS.out, HN.out]
        have HBB := Lib.hid hB.out
        have i3 : ¬ (n : Int) ≤ 120 := by omega
        clear hS hB
        go_wp2_with fail
        go_ret
        refine ⟨congrArg (fun b => Ending.returned (.bool b)) ?_, HBB.out⟩
        rw [HR.out, hfin.out, decide_eq_false (by omega)]
        rfl
    · obtain rfl : k = n := by omega
      have i1 : ¬ (k : Int) < (k : Int) := by omega
      have hfin : Hid (lightF l = (decide (k ≤ 120) && decide (t ≤ 600))) := by
        show _ = _
        unfold lightF
        have h1 := hS.out
        rw [List.take_of_length_le (by rw [← HN.out]; exact Nat.le_refl _)] at h1
        rw [List.take_of_length_le (by rw [← HN.out]; exact hk4), ← h1, HN.out]
      have HBB := Lib.hid hB.out
      clear hS hB
      go_wp2_with fail
      all_goals go_ret
      all_goals refine ⟨congrArg (fun b => Ending.returned (.bool b)) ?_, HBB.out⟩
      all_goals rw [HR.out, hfin.out, Bool.eq_iff_iff]
      all_goals simp
      all_goals omega
/-- What find answers. -/
def fdV (r : Option (UInt8 × Int × Nat)) : Array Value := match r with
  | none => #[.int .i64 0, .int .i64 0, .int .i64 (-1)]
  | some w => #[.int .i64 (w.1.toNat : Nat), .int .i64 w.2.1, .int .i64 (w.2.2 : Nat)]
set_option maxRecDepth 100000 in
set_option maxHeartbeats 4000000 in
theorem find_any (w : World) (v : Value) (ws : List (UInt8 × Int × Nat)) (c : UInt8) (h : WayS w v ws) : Calls Try.prog 23 #[v, .int .i64 (c.toNat : Nat)] w fun e w' => e = .returned (.agg (fdV (ws.find? fun x => x.1 == c))) ∧ Below w.heap.size w w' := by
  obtain ⟨aw, cw, rfl, hwc, hwm, hwr⟩ := h
  have hwr2 : Hid (∀ wx, Below w.heap.size w wx → 0 < ws.length → ∃ g, aw = some ⟨g, 0, none⟩ ∧ ∀ i (_ : i < ws.length), wx.cell? ⟨g, i * 3, none⟩ = some (.int .i64 (ws[i].1.toNat : Nat)) ∧ wx.cell? ⟨g, i * 3 + 1, none⟩ = some (.int .i64 ws[i].2.1) ∧ wx.cell? ⟨g, i * 3 + 2, none⟩ = some (.int .i64 (ws[i].2.2 : Nat))) := fun wx hb h0 => by
    obtain ⟨g, h1, h2, h3⟩ := hwr h0
    exact ⟨g, h1, fun i hi => ⟨(hb.cell (p := ⟨g, i * 3, none⟩) h2).trans (h3 i hi).1, (hb.cell (p := ⟨g, i * 3 + 1, none⟩) h2).trans (h3 i hi).2.1, (hb.cell (p := ⟨g, i * 3 + 2, none⟩) h2).trans (h3 i hi).2.2⟩⟩
  obtain ⟨n, hn⟩ : ∃ n, n = ws.length := ⟨_, rfl⟩
  rw [← hn] at hwc ⊢
  have HN := Lib.hid hn
  obtain ⟨R, hR⟩ : ∃ R, R = ws.find? fun x => x.1 == c := ⟨_, rfl⟩
  rw [← hR]
  have HR := Lib.hid hR
  have HM : Hid (RowT 55 (w.alloc (.cells #[.int .i64 0, .int .i64 0, .int .i64 0] 55)) w.heap.size #[.int .i64 0, .int .i64 0, .int .i64 0]) := Go.Deep.blk_alloc_new _ _
  clear hn hwr hR
  go_enter Try.func23, Try.ntmps23
  go_wp2_with fail
  go_loopg [5] n (fun gg s5 wx => ∃ (k : Nat), k ≤ n ∧ gg = n - k ∧ s5 = .int .i64 (k : Int) ∧ Hid (∀ i (_ : i < ws.length), i < k → ws[i].1 ≠ c) ∧ Hid (RowT 55 wx w.heap.size #[.int .i64 0, .int .i64 0, .int .i64 0]) ∧ Hid (Below w.heap.size w wx))
  case atStart => exact ⟨0, by omega, rfl, rfl, fun i _ h => by omega, HM.out, (Below.refl _ _).alloc (Nat.le_refl _) _⟩
  case round =>
    clear HM
    obtain ⟨k, hk, rfl, rfl, hS, hM, hB⟩ := hrel
    have hM := hM.out
    by_cases hkn : k < n
    · have i1 : (k : Int) < (n : Int) := by omega
      have kx : k < ws.length := by rw [← HN.out]; exact hkn
      obtain ⟨g, rfl, hcw⟩ := hwr2.out wr hB.out (by omega)
      obtain ⟨w1, w2, w3⟩ := hcw k kx
      by_cases hdc : ws[k].1 = c
      · have hff := Fs.find_first kx hS.out hdc
        rw [← HR.out] at hff
        have HF := Lib.hid hff
        rw [hdc] at w1
        have q1 := hM.set 0 (.int .i64 (c.toNat : Nat))
        have q2 := q1.set 1 (.int .i64 ws[k].2.1)
        have q3 := q2.set 2 (.int .i64 (ws[k].2.2 : Nat))
        have g0 := hM.frozen 0
        have g1 := hM.cell 0
        have g2 := q1.frozen 1
        have g3 : (wr.setCell ⟨w.heap.size, 0, none⟩ (.int .i64 (c.toNat : Nat))).cell? ⟨w.heap.size, 1, none⟩ = some (.int .i64 0) := q1.cell 1
        have g4 := q2.frozen 2
        have g5 : ((wr.setCell ⟨w.heap.size, 0, none⟩ (.int .i64 (c.toNat : Nat))).setCell ⟨w.heap.size, 1, none⟩ (.int .i64 ws[k].2.1)).cell? ⟨w.heap.size, 2, none⟩ = some (.int .i64 0) := q2.cell 2
        have HQ : Hid (RowT 55 (((wr.setCell ⟨w.heap.size, 0, none⟩ (.int .i64 (c.toNat : Nat))).setCell ⟨w.heap.size, 1, none⟩ (.int .i64 ws[k].2.1)).setCell ⟨w.heap.size, 2, none⟩ (.int .i64 (ws[k].2.2 : Nat))) w.heap.size #[.int .i64 (c.toNat : Nat), .int .i64 ws[k].2.1, .int .i64 (ws[k].2.2 : Nat)]) := q3
        have HBB : Hid (Below w.heap.size w (((wr.setCell ⟨w.heap.size, 0, none⟩ (.int .i64 (c.toNat : Nat))).setCell ⟨w.heap.size, 1, none⟩ (.int .i64 ws[k].2.1)).setCell ⟨w.heap.size, 2, none⟩ (.int .i64 (ws[k].2.2 : Nat)))) := ((hB.out.setCell (by exact Nat.le_refl _) _).setCell (by exact Nat.le_refl _) _).setCell (by exact Nat.le_refl _) _
        have HFV : Hid (fdV R = #[.int .i64 (c.toNat : Nat), .int .i64 ws[k].2.1, .int .i64 (ws[k].2.2 : Nat)]) := by show _ = _; rw [hff]; show #[_, _, _] = _; rw [hdc]
        clear hcw hff q1 q2 q3 hM hS hB hdc
        generalize ws[k].2.1 = x at *
        generalize ws[k].2.2 = t at *
        go_wp2_with fail
        refine bodyPost_ret (results_cell_1 rfl _ _ ⟨w.heap.size, 0, none⟩ (.agg #[.int .i64 (c.toNat : Nat), .int .i64 x, .int .i64 (t : Nat)]) rfl (loadW _ _ _ _ _ HQ.out)) rfl ?_
        exact ⟨by rw [HFV.out], HBB.out⟩
      · have hS2 : Hid (∀ i (_ : i < ws.length), i < k + 1 → ws[i].1 ≠ c) := fun i hi hij => by
          rcases Nat.lt_or_ge i k with q | q
          · exact hS.out i hi q
          · obtain rfl : i = k := by omega
            exact hdc
        have hne : ((ws[k].1.toNat : Int) == (c.toNat : Int)) = false := by
          rw [beq_eq_false_iff_ne]
          intro q
          exact hdc (UInt8.toNat_inj.1 (by omega))
        have hne2 : ¬ (ws[k].1.toNat : Int) = (c.toNat : Int) := by
          intro q
          exact hdc (UInt8.toNat_inj.1 (by omega))
        have HMM := Lib.hid hM
        have HBB := Lib.hid hB.out
        clear hcw hM hS hB hdc
        generalize ws[k].1.toNat = d at *
        generalize ws[k].2.1 = x at *
        generalize ws[k].2.2 = t at *
        go_wp2_with fail
        go_roundg (n - (k + 1))
        case rel => exact ⟨k + 1, by omega, rfl, by go_num, hS2, HMM.out, HBB.out⟩
        case measure => omega
    · obtain rfl : k = n := by omega
      have i1 : ¬ (k : Int) < (k : Int) := by omega
      have hff := Fs.find_never (c := c) (ws := ws) fun i hi => hS.out i hi (by have := HN.out; omega)
      rw [← HR.out] at hff
      have q1 := hM.set 0 (.int .i64 0)
      have q2 := q1.set 1 (.int .i64 0)
      have q3 := q2.set 2 (.int .i64 (-1))
      have g0 := hM.frozen 0
      have g1 := hM.cell 0
      have g2 := q1.frozen 1
      have g3 : (wr.setCell ⟨w.heap.size, 0, none⟩ (.int .i64 0)).cell? ⟨w.heap.size, 1, none⟩ = some (.int .i64 0) := q1.cell 1
      have g4 := q2.frozen 2
      have g5 : ((wr.setCell ⟨w.heap.size, 0, none⟩ (.int .i64 0)).setCell ⟨w.heap.size, 1, none⟩ (.int .i64 0)).cell? ⟨w.heap.size, 2, none⟩ = some (.int .i64 0) := q2.cell 2
      have HQ : Hid (RowT 55 (((wr.setCell ⟨w.heap.size, 0, none⟩ (.int .i64 0)).setCell ⟨w.heap.size, 1, none⟩ (.int .i64 0)).setCell ⟨w.heap.size, 2, none⟩ (.int .i64 (-1))) w.heap.size #[.int .i64 0, .int .i64 0, .int .i64 (-1)]) := q3
      have HBB : Hid (Below w.heap.size w (((wr.setCell ⟨w.heap.size, 0, none⟩ (.int .i64 0)).setCell ⟨w.heap.size, 1, none⟩ (.int .i64 0)).setCell ⟨w.heap.size, 2, none⟩ (.int .i64 (-1)))) := ((hB.out.setCell (by exact Nat.le_refl _) _).setCell (by exact Nat.le_refl _) _).setCell (by exact Nat.le_refl _) _
      have HFV : Hid (fdV R = #[.int .i64 0, .int .i64 0, .int .i64 (-1)]) := by show _ = _; rw [hff]; rfl
      clear hff q1 q2 q3 hM hS hB
      go_wp2_with fail
      refine bodyPost_ret (results_cell_1 rfl _ _ ⟨w.heap.size, 0, none⟩ (.agg #[.int .i64 0, .int .i64 0, .int .i64 (-1)]) rfl (loadW _ _ _ _ _ HQ.out)) rfl ?_
      exact ⟨by rw [HFV.out], HBB.out⟩
end Go.Proofs.Ytdjiknakbldggaa

/-
  Whether bytes are what Build writes of a dictionary's terms; what a dictionary that is nil answers.
-/
namespace Go.Proofs.Ytdjiknakbldggaa
open Go.RowKit Go.Maps

theorem addW_le (m : Int) (l : List Fs.En) : ∀ e ∈ Fs.addW m l, e.2 ≤ 9223372036854775807 := fun e he => by
  unfold Fs.addW at he
  obtain ⟨x, _, rfl⟩ := List.mem_map.1 he
  show wrap64 _ ≤ _
  unfold wrap64
  omega
set_option maxRecDepth 100000 in
set_option maxHeartbeats 4000000 in
theorem writes_any (s : List UInt8) (w : World) (db : Nat) (N : List Fs.Nd) (T : List (List Fs.En)) (least : Int) (terms : Nat) (h : DicS w db N least terms) (hR : Fs.Rel N T) (ht : terms ≤ 65536) (hl : -9223372036854775808 ≤ least ∧ least ≤ 9223372036854775807) :
    Calls Try.prog 36 #[.pointer (some ⟨db, 0, none⟩), .string (bs s)] w fun e w' => e = .returned (.bool (decide (Fs.right (Fs.addW least (T.getLast?.getD [])) = 0 ∧ Fs.bytes (Fs.addW least (T.getLast?.getD [])) = s))) ∧ Below w.heap.size w w' := by
  have HA := Lib.hid (all_any w db N T least terms h hR ht hl)
  clear h hR
  have hle := addW_le least (T.getLast?.getD [])
  unfold AllPostE at HA
  generalize Fs.addW least (T.getLast?.getD []) = L at *
  have HBU : Hid (∀ w1 v, OwnE w1 w.heap.size v L → Calls Try.prog 10 #[v] w1 (BuildPost w1 L)) := fun w1 v h1 => build_any w1 v L h1.ens hle
  unfold BuildPost at HBU
  have HFM : Hid (∀ w1 v, OwnE w1 w.heap.size v L → ∃ a cap, v = .slice a L.length cap) := fun w1 v h1 => h1.form
  obtain ⟨R, hRR⟩ : ∃ R, R = decide (Fs.right L = 0 ∧ Fs.bytes L = s) := ⟨_, rfl⟩
  have hcm : ((bs (Fs.built L)).toList == (bs s).toList) = (Fs.built L == s) := by rw [bs_list, bs_list]
  rw [← hRR]
  by_cases h0 : Fs.right L = 0
  · have hb : Fs.built L = Fs.bytes L := by unfold Fs.built; exact if_pos h0
    have hcm2 : ((bs (Fs.built L)).toList == (bs s).toList) = R := by
      rw [hcm, hRR, hb, Bool.eq_iff_iff]
      simp [h0]
    rw [h0] at HBU
    clear hcm hb hRR hle h0 hl ht
    generalize bs (Fs.built L) = S1 at *
    generalize bs s = S2 at *
    go_enter Try.func36, Try.ntmps36
    go_wp2_with (first | (go_at_call 15; go_loud ((refine HA.out.mono ?_; rintro e1 w1 ⟨v1, rfl, ho1, hb1⟩; obtain ⟨a1, c1, rfl⟩ := HFM.out w1 v1 ho1; have HO1 := Lib.hid ho1; have HB1 := Lib.hid hb1; clear ho1 hb1))) | (go_at_call 10; go_loud ((refine (HBU.out _ _ HO1.out).mono ?_; rintro e2 w2 ⟨rfl, hb2⟩; have HB2 := Lib.hid (HB1.out.trans (hb2.mono HB1.out.size)); clear hb2))))
    go_ret
    exact ⟨by first | rfl | (rw [← hcm2]; rfl) | (rw [← hcm2]), HB2.out⟩
  · obtain rfl : R = false := by rw [hRR]; exact decide_eq_false fun q => h0 q.1
    clear hcm hRR hle hl ht
    generalize Fs.right L = E at *
    generalize bs (Fs.built L) = S1 at *
    generalize bs s = S2 at *
    go_enter Try.func36, Try.ntmps36
    go_wp2_with (first | (go_at_call 15; go_loud ((refine HA.out.mono ?_; rintro e1 w1 ⟨v1, rfl, ho1, hb1⟩; obtain ⟨a1, c1, rfl⟩ := HFM.out w1 v1 ho1; have HO1 := Lib.hid ho1; have HB1 := Lib.hid hb1; clear ho1 hb1))) | (go_at_call 10; go_loud ((refine (HBU.out _ _ HO1.out).mono ?_; rintro e2 w2 ⟨rfl, hb2⟩; have HB2 := Lib.hid (HB1.out.trans (hb2.mono HB1.out.size)); clear hb2))))
    go_ret
    exact ⟨rfl, HB2.out⟩
set_option maxRecDepth 100000 in
set_option maxHeartbeats 1000000 in
theorem node_nil (i : Int) (w : World) : Calls Try.prog 21 #[.pointer none, .int .i64 i] w fun e w' => e = .returned (.tuple #[.agg #[.bool false, .int .i64 0, .slice none 0 0], .bool false]) ∧ Below w.heap.size w w' := by
  go_enter Try.func21, Try.ntmps21
  go_wp2_with fail
  refine bodyPost_ret (results_cell_tmp rfl _ _ ⟨w.heap.size, 0, none⟩ (.agg #[.bool false, .int .i64 0, .slice none 0 0]) rfl (loadN' _ _ _ _ _ (Go.Deep.blk_alloc_new _ _))) rfl ?_
  exact ⟨rfl, (Below.refl _ _).alloc (Nat.le_refl _) _⟩
end Go.Proofs.Ytdjiknakbldggaa

/-
  Two ways compared.
-/
namespace Go.Proofs.Ytdjiknakbldggaa
open Go.RowKit Go.Maps
theorem way_eq (w : World) (a0 a1 a2 b0 b1 b2 : Int) : (Op.equalIn 10000 55 (.agg #[.int .i64 a0, .int .i64 a1, .int .i64 a2]) (.agg #[.int .i64 b0, .int .i64 b1, .int .i64 b2])).run Try.prog w = .ok ((a0 == b0) && ((a1 == b1) && (a2 == b2))) w := by
  rw [run_equalIn_struct w 9999 55 _ _ (by kernel_rfl) (by kernel_rfl)]
  have hp0 : ∀ (x y z : Int) (w : World), (Go.part 3 #[.int .i64 x, .int .i64 y, .int .i64 z] 0).run Try.prog w = .ok (.int .i64 x) w := fun x y z w => by kernel_rfl
  have hp1 : ∀ (x y z : Int) (w : World), (Go.part 3 #[.int .i64 x, .int .i64 y, .int .i64 z] 1).run Try.prog w = .ok (.int .i64 y) w := fun x y z w => by kernel_rfl
  have hp2 : ∀ (x y z : Int) (w : World), (Go.part 3 #[.int .i64 x, .int .i64 y, .int .i64 z] 2).run Try.prog w = .ok (.int .i64 z) w := fun x y z w => by kernel_rfl
  have hg : ∀ (e : Nat) (x y : Int) (w : World), (Op.equalIn (e + 1) 3 (.int .i64 x) (.int .i64 y)).run Try.prog w = .ok (x == y) w := fun e x y w => by
    simp [Op.equalIn, run_underlying Try.underlying3]
  have he : ∀ (x y : Int) (w : World), (Op.equalIn 9999 3 (.int .i64 x) (.int .i64 y)).run Try.prog w = .ok (x == y) w := fun x y w => hg 9998 x y w
  simp only [Program.fieldsOf, Try.underlying55]
  simp only [Op.eqFields, Sem.run_bind, Sem.run_ite, hp0, hp1, hp2, he, Result.andThen_ok]
  cases h1 : (a0 == b0) <;> cases h2 : (a1 == b1) <;> cases h3 : (a2 == b2) <;> simp [Sem.run_pure]
end Go.Proofs.Ytdjiknakbldggaa

/-
  Whether two nodes are alike.
-/
namespace Go.Proofs.Ytdjiknakbldggaa
open Go.RowKit Go.Maps

set_option maxRecDepth 100000 in
set_option maxHeartbeats 4000000 in
theorem alikeN_any (w : World) (va vb : Value) (f g : Bool) (o p : Int) (wa wb : List (UInt8 × Int × Nat)) (ha : WayS w va wa) (hb : WayS w vb wb) (hla : wa.length ≤ 1048576) (hlb : wb.length ≤ 1048576) :
    Calls Try.prog 22 #[.agg #[.bool f, .int .i64 o, va], .agg #[.bool g, .int .i64 p, vb]] w fun e w' => e = .returned (.bool (decide (f = g ∧ o = p ∧ wa = wb))) ∧ Below w.heap.size w w' := by
  obtain ⟨aa, ca, rfl, hac, ham, har⟩ := ha
  obtain ⟨ab, cb, rfl, hbc, hbm, hbr⟩ := hb
  have hwr : ∀ (ws : List (UInt8 × Int × Nat)) (aw : Option Addr) (_ : 0 < ws.length → ∃ g, aw = some ⟨g, 0, none⟩ ∧ g < w.heap.size ∧ ∀ i (_ : i < ws.length), w.cell? ⟨g, i * 3, none⟩ = some (.int .i64 (ws[i].1.toNat : Nat)) ∧ w.cell? ⟨g, i * 3 + 1, none⟩ = some (.int .i64 ws[i].2.1) ∧ w.cell? ⟨g, i * 3 + 2, none⟩ = some (.int .i64 (ws[i].2.2 : Nat))),
      Hid (∀ wx, Below w.heap.size w wx → 0 < ws.length → ∃ g, aw = some ⟨g, 0, none⟩ ∧ ∀ i (_ : i < ws.length), wx.cell? ⟨g, i * 3, none⟩ = some (.int .i64 (ws[i].1.toNat : Nat)) ∧ wx.cell? ⟨g, i * 3 + 1, none⟩ = some (.int .i64 ws[i].2.1) ∧ wx.cell? ⟨g, i * 3 + 2, none⟩ = some (.int .i64 (ws[i].2.2 : Nat))) := fun ws aw hw wx hb h0 => by
    obtain ⟨g, h1, h2, h3⟩ := hw h0
    exact ⟨g, h1, fun i hi => ⟨(hb.cell (p := ⟨g, i * 3, none⟩) h2).trans (h3 i hi).1, (hb.cell (p := ⟨g, i * 3 + 1, none⟩) h2).trans (h3 i hi).2.1, (hb.cell (p := ⟨g, i * 3 + 2, none⟩) h2).trans (h3 i hi).2.2⟩⟩
  have HA := hwr wa aa har
  have HB := hwr wb ab hbr
  obtain ⟨n, hn⟩ : ∃ n, n = wa.length := ⟨_, rfl⟩
  obtain ⟨m, hm⟩ : ∃ m, m = wb.length := ⟨_, rfl⟩
  obtain ⟨R, hR⟩ : ∃ R, R = decide (f = g ∧ o = p ∧ wa = wb) := ⟨_, rfl⟩
  rw [← hR, ← hn, ← hm]
  rw [← hn] at hac hla
  rw [← hm] at hbc hlb
  have HN := Lib.hid hn
  have HM := Lib.hid hm
  have HR := Lib.hid hR
  have hcc : ∀ wx, Below w.heap.size w wx → _ := fun wx (hb : Below w.heap.size w wx) => ((hb.alloc hb.size (.cells #[.bool f, .int .i64 o, .slice aa n ca] 51)))
  clear hn hm hR har hbr hwr hcc
  by_cases hfg : f = g ∧ o = p ∧ n = m
  · obtain ⟨rfl, rfl, rfl⟩ := hfg
    go_enter Try.func22, Try.ntmps22
    go_wp2_with fail
    go_loopg [5] n (fun gg s5 wx => ∃ (k : Nat), k ≤ n ∧ gg = n - k ∧ s5 = .int .i64 (k : Int) ∧ Hid (∀ i (h1 : i < wa.length) (h2 : i < wb.length), i < k → wa[i] = wb[i]) ∧ Hid (RowT 51 wx w.heap.size #[.bool f, .int .i64 o, .slice aa n ca]) ∧ Hid (RowT 51 wx (w.heap.size + 1) #[.bool f, .int .i64 o, .slice ab n cb]) ∧ Hid (Below w.heap.size w wx))
    case atStart =>
      refine ⟨0, by omega, rfl, rfl, fun i _ _ h => by omega, ?_, ?_, ((Below.refl _ _).alloc (Nat.le_refl _) _).alloc (by simp) _⟩
      · show _ = _
        rw [Go.Deep.blk_alloc_lt _ _ _ (by simp)]
        exact Go.Deep.blk_alloc_new _ _
      · show _ = _
        have s1 : (w.alloc (.cells #[.bool f, .int .i64 o, .slice aa n ca] 51)).heap.size = w.heap.size + 1 := World.size_alloc _ _
        rw [← s1]
        exact Go.Deep.blk_alloc_new _ _
    case round =>
      obtain ⟨k, hk, rfl, rfl, hS, hra, hrb, hB⟩ := hrel
      have r1 : wr.cell? ⟨w.heap.size, 2, none⟩ = some (.slice aa n ca) := hra.out.cell 2
      have r2 : wr.cell? ⟨w.heap.size + 1, 2, none⟩ = some (.slice ab n cb) := hrb.out.cell 2
      by_cases hkn : k < n
      · have i1 : (k : Int) < (n : Int) := by omega
        have ka : k < wa.length := by rw [← HN.out]; exact hkn
        have kb : k < wb.length := by rw [← HM.out]; exact hkn
        obtain ⟨ga, rfl, hca⟩ := HA.out wr hB.out (by omega)
        obtain ⟨gb, rfl, hcb⟩ := HB.out wr hB.out (by omega)
        obtain ⟨a1, a2, a3⟩ := hca k ka
        obtain ⟨b1, b2, b3⟩ := hcb k kb
        have hT : Hid (wa[k] = wb[k] ↔ ((wa[k].1.toNat : Nat) : Int) = ((wb[k].1.toNat : Nat) : Int) ∧ wa[k].2.1 = wb[k].2.1 ∧ ((wa[k].2.2 : Nat) : Int) = ((wb[k].2.2 : Nat) : Int)) := by
          constructor
          · intro e
            rw [e]
            exact ⟨rfl, rfl, rfl⟩
          · rintro ⟨e1, e2, e3⟩
            exact Prod.ext (UInt8.toNat_inj.1 (by omega)) (Prod.ext e2 (by omega))
        have HBB := Lib.hid hB.out
        have hS2 : Hid (wa[k] = wb[k] → ∀ i (h1 : i < wa.length) (h2 : i < wb.length), i < k + 1 → wa[i] = wb[i]) := fun e i h1 h2 hij => by
          rcases Nat.lt_or_ge i k with q | q
          · exact hS.out i h1 h2 q
          · obtain rfl : i = k := by omega
            exact e
        have hF : Hid (¬ wa[k] = wb[k] → R = false) := fun e => by
          rw [HR.out]
          exact decide_eq_false fun q => e (by obtain ⟨_, _, rfl⟩ := q; rfl)
        obtain ⟨E, hE⟩ : ∃ E : Prop, E ↔ wa[k] = wb[k] := ⟨_, Iff.rfl⟩
        rw [← hE] at hT hS2 hF
        clear hca hcb hE hB hS
        generalize wa[k].1.toNat = a0 at *
        generalize wa[k].2.1 = x0 at *
        generalize wa[k].2.2 = t0 at *
        generalize wb[k].1.toNat = d0 at *
        generalize wb[k].2.1 = y0 at *
        generalize wb[k].2.2 = u0 at *
        by_cases he : E
        · obtain ⟨e1, e2, e3⟩ := hT.out.1 he
          have hpe : ∀ wx, (Op.equalIn 10000 55 (.agg #[.int .i64 (a0 : Int), .int .i64 x0, .int .i64 (t0 : Int)]) (.agg #[.int .i64 (d0 : Int), .int .i64 y0, .int .i64 (u0 : Int)])).run Try.prog wx = .ok true wx := fun wx => by
            rw [way_eq, beq_iff_eq.2 e1, beq_iff_eq.2 e2, beq_iff_eq.2 e3]
            rfl
          have HS3 := Lib.hid (hS2.out he)
          clear e1 e2 e3 hT hF hS2
          go_wp2_with fail
          go_quiet (fail)
          go_wp2_with fail
          go_roundg (n - (k + 1))
          case rel => exact ⟨k + 1, by omega, rfl, by go_num, HS3.out, hra.out, hrb.out, by show Below _ _ _; exact belowN HBB.out _⟩
          case measure => omega
        · have hpe : ∀ wx, (Op.equalIn 10000 55 (.agg #[.int .i64 (a0 : Int), .int .i64 x0, .int .i64 (t0 : Int)]) (.agg #[.int .i64 (d0 : Int), .int .i64 y0, .int .i64 (u0 : Int)])).run Try.prog wx = .ok false wx := fun wx => by
            rw [way_eq]
            congr 1
            rw [Bool.eq_false_iff]
            intro q
            simp only [Bool.and_eq_true, beq_iff_eq] at q
            exact he (hT.out.2 q)
          have HT := Lib.hid (hF.out he)
          clear hT hF hS2
          go_wp2_with fail
          go_quiet (fail)
          go_wp2_with fail
          go_ret
          exact ⟨by rw [HT.out]; rfl, by first | exact HBB.out | exact belowN HBB.out _⟩
      · obtain rfl : k = n := by omega
        have i1 : ¬ (k : Int) < (k : Int) := by omega
        have heq : wa = wb := List.ext_getElem (by rw [← HN.out, ← HM.out]) fun i h1 h2 => hS.out i h1 h2 (by have := HN.out; omega)
        have HT : Hid (R = true) := by show _ = _; rw [HR.out]; simp [heq]
        have HBB := Lib.hid hB.out
        clear hS hra hrb hB heq
        go_wp2_with fail
        go_ret
        exact ⟨by rw [HT.out]; rfl, HBB.out⟩
  · have HT : Hid (R = false) := by
      show _ = _
      rw [HR.out]
      refine decide_eq_false ?_
      rintro ⟨e1, e2, e3⟩
      exact hfg ⟨e1, e2, by rw [HN.out, HM.out, e3]⟩
    have HBB : Hid (Below w.heap.size w ((w.alloc (.cells #[.bool f, .int .i64 o, .slice aa n ca] 51)).alloc (.cells #[.bool g, .int .i64 p, .slice ab m cb] 51))) := ((Below.refl _ _).alloc (Nat.le_refl _) _).alloc (by simp) _
    by_cases hf : f = g
    · subst hf
      by_cases ho : o = p
      · subst ho
        have hnm : ¬ (n : Int) = (m : Int) := fun e => hfg ⟨rfl, rfl, by omega⟩
        have hnm2 : ((n : Int) != (m : Int)) = true := by simpa using hnm
        clear hfg
        go_enter Try.func22, Try.ntmps22
        go_wp2_with fail
        go_ret
        exact ⟨by rw [HT.out]; rfl, HBB.out⟩
      · clear hfg
        go_enter Try.func22, Try.ntmps22
        go_wp2_with fail
        all_goals go_ret
        all_goals exact ⟨by rw [HT.out]; rfl, HBB.out⟩
    · clear hfg
      go_enter Try.func22, Try.ntmps22
      go_wp2_with fail
      all_goals go_ret
      all_goals exact ⟨by rw [HT.out]; rfl, HBB.out⟩
end Go.Proofs.Ytdjiknakbldggaa

/-
  slices.Clone of ways; the node at a place.
-/
namespace Go.Proofs.Ytdjiknakbldggaa
open Go.RowKit Go.Maps

theorem wys_one (l : List (UInt8 × Int × Nat)) : ∀ u ∈ wyV l, u.oneCell' = true := by
  intro u hu
  obtain ⟨x, _, hx⟩ := List.mem_flatMap.1 hu
  simp only [List.mem_cons, List.not_mem_nil, or_false] at hx
  rcases hx with rfl | rfl | rfl <;> rfl
theorem ways_news {w : World} {g : Nat} {l : List (UInt8 × Int × Nat)} (hcell : ∀ j (_ : j < l.length), w.cell? ⟨g, j * 3, none⟩ = some (.int .i64 (l[j].1.toNat : Nat)) ∧ w.cell? ⟨g, j * 3 + 1, none⟩ = some (.int .i64 l[j].2.1) ∧ w.cell? ⟨g, j * 3 + 2, none⟩ = some (.int .i64 (l[j].2.2 : Nat))) :
    ∀ j u, (wyV l)[j]? = some u → w.cell? ((⟨g, 0, none⟩ : Addr).add j) = some u := by
  intro j u h
  have hj : j < (wyV l).length := (List.getElem?_eq_some_iff.1 h).1
  rw [wyV_length] at hj
  have hk : j / 3 < l.length := by omega
  obtain ⟨a1, a2, a3⟩ := wyV_at l (j / 3) hk
  obtain ⟨b1, b2, b3⟩ := hcell (j / 3) hk
  rw [Addr.add_lit, Nat.zero_add]
  have hm : j % 3 = 0 ∨ j % 3 = 1 ∨ j % 3 = 2 := by omega
  rcases hm with hm | hm | hm
  · rw [show j = j / 3 * 3 by omega, a1] at h
    rw [← h, ← b1]
    congr 2
    omega
  · rw [show j = j / 3 * 3 + 1 by omega, a2] at h
    rw [← h, ← b2]
    congr 2
    omega
  · rw [show j = j / 3 * 3 + 2 by omega, a3] at h
    rw [← h, ← b3]
    congr 2
    omega
set_option maxHeartbeats 2000000 in
set_option maxRecDepth 100000 in
theorem cloneY_any (w : World) (v : Value) (l : List (UInt8 × Int × Nat)) (h : WayS w v l) (hl : l.length * 24 ≤ 140737488355328) :
    Calls Try.prog 40 #[v] w fun e w' => ∃ v', e = .returned v' ∧ OwnY w' w.heap.size v' l ∧ Below w.heap.size w w' := by
  obtain ⟨a, cap, rfl, _, hcp, hc⟩ := h
  have q := fun (w : World) (a : Option Addr) (n c n' c' : Nat) => Lib.run_eql_slice_nil (P := Try.prog) w 49 55 a n c n' c' Try.underlying49
  cases a with
  | none =>
    have h0 : l = [] := by
      rcases Nat.eq_zero_or_pos l.length with h0 | h0
      · exact List.length_eq_zero_iff.1 h0
      · obtain ⟨g, hh, _⟩ := hc h0
        cases hh
    subst h0
    go_enter Try.func40, Try.ntmps40
    go_wp2_with fail
    go_ret
    exact ⟨_, rfl, World.ownsRow_nil _ _ _ _, Below.refl _ _⟩
  | some ad =>
    have hnews : ∀ j u, (wyV l)[j]? = some u → w.cell? (ad.add j) = some u := by
      rcases Nat.eq_zero_or_pos l.length with h0 | h0
      · obtain rfl : l = [] := List.length_eq_zero_iff.1 h0
        intro j u hu
        simp [wyV] at hu
      · obtain ⟨g, hh, _, hcell⟩ := hc h0
        cases hh
        exact ways_news hcell
    have HNW := Lib.hid hnews
    clear hnews hc
    obtain ⟨ii, hi, hz0, hz1, hz2⟩ := info_parts Try.infoW
    obtain ⟨n, hn⟩ : ∃ n, n = l.length := ⟨_, rfl⟩
    have HN := Lib.hid hn
    rw [← hn] at hl ⊢
    clear hn
    go_enter Try.func40, Try.ntmps40
    go_wp2_with (at_builtin; refine wpList_append_own _ rfl _ _ 49 rfl w.heap.size 55 ii _ 3 24 Try.underlying49 hi hz0 hz1 hz2 rfl (by decide) _ _ _ rfl (World.ownsRow_made w #[] 0 (Nat.le_refl _) (Nat.zero_le _) rfl) ad n cap (wyV l) rfl (by rw [wyV_length, HN.out]) (fun j u hu => Lib.cell?_alloc_some _ (HNW.out j u hu)) (wys_one l) (by unfold maxLen; omega) (by omega) (by simp) ?_; intro v' w1 hown hgrow hnil; have HOW := Lib.hid hown; have HGR := Lib.hid hgrow; clear hown hgrow hnil)
    go_wp2_with fail
    go_ret
    refine ⟨v', rfl, ?_, ((Below.refl _ w).alloc (Nat.le_refl _) _).grown HGR.out (by simp) (by intro k hk; have hk2 : some w.heap.size = some k := hk; injection hk2 with hk2; omega)⟩
    unfold OwnY
    rw [← HN.out]
    simpa using HOW.out
end Go.Proofs.Ytdjiknakbldggaa

/-
  The node at a place.
-/
namespace Go.Proofs.Ytdjiknakbldggaa
open Go.RowKit Go.Maps

set_option maxRecDepth 100000 in
set_option maxHeartbeats 4000000 in
theorem node_out (w : World) (db : Nat) (N : List Fs.Nd) (least : Int) (terms : Nat) (h : DicS w db N least terms) (i : Int) (hi : i < 0 ∨ (N.length : Int) ≤ i) :
    Calls Try.prog 21 #[.pointer (some ⟨db, 0, none⟩), .int .i64 i] w fun e w' => e = .returned (.tuple #[.agg #[.bool false, .int .i64 0, .slice none 0 0], .bool false]) ∧ Below w.heap.size w w' := by
  obtain ⟨nv, hrow, an, cn, hnv, hcn, hcn2, -⟩ := h
  subst hnv
  have hdb := hrow.lt
  have c0 : w.cell? ⟨db, 0, none⟩ = some (.slice an N.length cn) := hrow.cell 0
  have c1 : (w.alloc (.cells #[.bool false, .int .i64 0, .slice none 0 0] 51)).cell? ⟨db, 0, none⟩ = some (.slice an N.length cn) := (((Below.refl w.heap.size w).alloc (Nat.le_refl _) _).cell (p := ⟨db, 0, none⟩) hdb).trans c0
  clear hrow hdb
  generalize N.length = n at *
  rcases hi with hi | hi
  · go_enter Try.func21, Try.ntmps21
    go_wp2_with fail
    refine bodyPost_ret (results_cell_tmp rfl _ _ ⟨w.heap.size, 0, none⟩ (.agg #[.bool false, .int .i64 0, .slice none 0 0]) rfl (loadN' _ _ _ _ _ (Go.Deep.blk_alloc_new _ _))) rfl ?_
    exact ⟨rfl, (Below.refl _ _).alloc (Nat.le_refl _) _⟩
  · have h0 : ¬ i < 0 := by omega
    go_enter Try.func21, Try.ntmps21
    go_wp2_with fail
    refine bodyPost_ret (results_cell_tmp rfl _ _ ⟨w.heap.size, 0, none⟩ (.agg #[.bool false, .int .i64 0, .slice none 0 0]) rfl (loadN' _ _ _ _ _ (Go.Deep.blk_alloc_new _ _))) rfl ?_
    exact ⟨rfl, (Below.refl _ _).alloc (Nat.le_refl _) _⟩
set_option maxRecDepth 100000 in
set_option maxHeartbeats 4000000 in
theorem node_at (w : World) (db : Nat) (N : List Fs.Nd) (least : Int) (terms : Nat) (h : DicS w db N least terms) (i : Nat) (hi : i < N.length) (hb : N[i].2.length ≤ 1048576) :
    Calls Try.prog 21 #[.pointer (some ⟨db, 0, none⟩), .int .i64 (i : Int)] w fun e w' => ∃ v, e = .returned (.tuple #[.agg #[.bool N[i].1.isSome, .int .i64 (N[i].1.getD 0), v], .bool true]) ∧ OwnY w' w.heap.size v N[i].2 ∧ Below w.heap.size w w' := by
  obtain ⟨nv, hrow, an, cn, hnv, hcn, hcn2, hnc⟩ := h
  subst hnv
  obtain ⟨gn, rfl, hgn, hcell⟩ := hnc (by omega)
  obtain ⟨wv, hws, n0, n1, n2⟩ := hcell i hi
  have hdb := hrow.lt
  have c0 : w.cell? ⟨db, 0, none⟩ = some (.slice (some ⟨gn, 0, none⟩) N.length cn) := hrow.cell 0
  have hb1 : Below w.heap.size w (w.alloc (.cells #[.bool false, .int .i64 0, .slice none 0 0] 51)) := (Below.refl w.heap.size w).alloc (Nat.le_refl _) _
  have c1 : (w.alloc (.cells #[.bool false, .int .i64 0, .slice none 0 0] 51)).cell? ⟨db, 0, none⟩ = some (.slice (some ⟨gn, 0, none⟩) N.length cn) := (hb1.cell (p := ⟨db, 0, none⟩) hdb).trans c0
  have m0 := (hb1.cell (p := ⟨gn, i * 3, none⟩) hgn).trans n0
  have m1 := (hb1.cell (p := ⟨gn, i * 3 + 1, none⟩) hgn).trans n1
  have m2 := (hb1.cell (p := ⟨gn, i * 3 + 2, none⟩) hgn).trans n2
  obtain ⟨nd, hnd⟩ : ∃ nd, nd = N[i] := ⟨_, rfl⟩
  rw [← hnd] at hws n0 n1 m0 m1 hb ⊢
  clear hcell hnc hrow hnd
  generalize N.length = n at *
  obtain ⟨fin, ws⟩ := nd
  dsimp only at hws n0 n1 m0 m1 hb ⊢
  have i1 : (i : Int) < (n : Int) := by omega
  have i2 : ¬ (n : Int) ≤ (i : Int) := by omega
  have i3 : ¬ (i : Int) < 0 := by omega
  have s1 : (w.alloc (.cells #[.bool false, .int .i64 0, .slice none 0 0] 51)).heap.size = w.heap.size + 1 := World.size_alloc _ _
  have HCL : Hid (Calls Try.prog 40 #[wv] ((w.alloc (.cells #[.bool false, .int .i64 0, .slice none 0 0] 51)).alloc (.cells #[.bool fin.isSome, .int .i64 (fin.getD 0), wv] 51)) fun e w' => ∃ a cap, e = .returned (.slice a ws.length cap) ∧ RowT 51 w' w.heap.size #[.bool false, .int .i64 0, .slice none 0 0] ∧ RowT 51 w' (w.heap.size + 1) #[.bool fin.isSome, .int .i64 (fin.getD 0), wv] ∧ OwnY w' (w.heap.size + 1 + 1) (.slice a ws.length cap) ws ∧ Below w.heap.size w w') := by
    have hb2 := hb1.alloc (by omega) (.cells #[.bool fin.isSome, .int .i64 (fin.getD 0), wv] 51)
    refine (cloneY_any _ wv ws (hws.below hb2 (Nat.le_refl _)) (by omega)).mono ?_
    rintro e w' ⟨v', rfl, hown, hbb⟩
    have s2 : ((w.alloc (.cells #[.bool false, .int .i64 0, .slice none 0 0] 51)).alloc (.cells #[.bool fin.isSome, .int .i64 (fin.getD 0), wv] 51)).heap.size = w.heap.size + 1 + 1 := by rw [World.size_alloc, s1]
    rw [s2] at hown hbb
    obtain ⟨a, cap, rfl, _, _⟩ := own_form hown
    refine ⟨a, cap, rfl, ?_, ?_, hown, hb2.trans (hbb.mono (by omega))⟩
    · show _ = _
      rw [hbb.block _ (by omega), Go.Deep.blk_alloc_lt _ _ _ (by omega)]
      exact Go.Deep.blk_alloc_new _ _
    · show _ = _
      rw [hbb.block _ (by omega), ← s1]
      exact Go.Deep.blk_alloc_new _ _
  obtain ⟨aw, cw, rfl, -, -, -⟩ := hws
  clear hdb hb1 hb hgn s1
  go_enter Try.func21, Try.ntmps21
  go_wp2_with (go_at_call 40; go_loud ((refine HCL.out.mono ?_; rintro e1 w1 ⟨a1, cap1, rfl, hr0, hr1, ho1, hb1⟩; have d0 := hr1.frozen 2; have d1 : w1.cell? ⟨w.heap.size + 1, 2, none⟩ = some (.slice aw ws.length cw) := hr1.cell 2; have q1 : RowT 51 (w1.setCell ⟨w.heap.size + 1, 2, none⟩ (.slice a1 ws.length cap1)) (w.heap.size + 1) #[.bool fin.isSome, .int .i64 (fin.getD 0), .slice a1 ws.length cap1] := hr1.set 2 _; have e0 := q1.cell 0; have e1 := q1.cell 1; have e2 := q1.cell 2; have q0 := hr0.keep (heap_other w1 (w.heap.size + 1) 2 w.heap.size (.slice a1 ws.length cap1) (by omega)); have qb := hb1.setCell (p := ⟨w.heap.size + 1, 2, none⟩) (by show w.heap.size ≤ w.heap.size + 1; omega) (.slice a1 ws.length cap1); obtain ⟨g0, g1, g2, g3, g4, g5, HQ⟩ := resOf (w := w) (b := w.heap.size) (x0 := .bool fin.isSome) (x1 := .int .i64 (fin.getD 0)) (x2 := .slice a1 ws.length cap1) q0 ⟨qb.os, qb.tape, qb.output, qb.size, fun k hk _ => qb.block k hk⟩; have HQB := Lib.hid qb; have HO1 := Lib.hid ho1; clear hr0 hr1 ho1 hb1 q0 q1 qb)))
  refine bodyPost_ret (results_cell_tmp rfl _ _ ⟨w.heap.size, 0, none⟩ (.agg #[.bool fin.isSome, .int .i64 (fin.getD 0), .slice a1 ws.length cap1]) rfl (loadN' _ _ _ _ _ HQ.out.1)) rfl ?_
  refine ⟨_, rfl, ownsRow_base (B := w.heap.size + 1 + 1) (ownsRow_keep HO1.out fun k hk => ?_) (by omega), ((HQB.out.setCell (by exact Nat.le_refl _) _).setCell (by exact Nat.le_refl _) _).setCell (by exact Nat.le_refl _) _⟩
  have hk2 := (own_kind HO1.out k hk).1
  rw [heap_other _ _ _ _ _ (by omega), heap_other _ _ _ _ _ (by omega), heap_other _ _ _ _ _ (by omega), heap_other _ _ _ _ _ (by omega)]
end Go.Proofs.Ytdjiknakbldggaa

/-
  Open: bytes are a dictionary, or are refused.
-/
namespace Go.Proofs.Ytdjiknakbldggaa
open Go.RowKit Go.Maps

theorem read_any (s : List UInt8) (b : Nat) (w : World) (hc : CurT w b s) (hs : s.length ≤ 4194304) :
    Calls Try.prog 34 #[.pointer (some ⟨b, 0, none⟩)] w (ReadPost w b (Fs.rdAll s) (Fs.cN (Fs.past s))) := by
  unfold Fs.rdAll
  by_cases he : Fs.cE s = 0
  · rw [if_neg (fun q => q he)]
    by_cases he2 : Fs.cE (Fs.past s) = 0
    · rw [if_neg (fun q => q he2)]
      exact read_good s b w hc hs he he2
    · rw [if_pos he2]
      refine (read_bad2 s b w hc hs he he2).mono ?_
      rintro e w' ⟨rfl, hk⟩
      exact ⟨hk, .inl ⟨he2, rfl⟩⟩
  · rw [if_pos he]
    refine (read_bad1 s b w hc hs he).mono ?_
    rintro e w' ⟨rfl, hk⟩
    exact ⟨hk, .inl ⟨he, rfl⟩⟩
set_option maxRecDepth 100000 in
set_option maxHeartbeats 1000000 in
theorem atC_any (s : ByteArray) (w : World) : Calls Try.prog 33 #[.string s] w fun e w' => e = .returned (.pointer (some ⟨w.heap.size, 0, none⟩)) ∧ w' = w.alloc (.cells #[.string s] 101) := by
  go_enter Try.func33, Try.ntmps33
  go_wp2_with fail
  go_ret
  exact ⟨rfl, rfl⟩
/-- What Open answers. -/
def OpenPost (w : World) (s : List UInt8) (e : Ending) (w' : World) : Prop :=
  Below w.heap.size w w' ∧ ((Fs.openE s ≠ 0 ∧ e = .returned (.tuple #[.pointer none, .int .i64 (Fs.openE s)])) ∨
    (Fs.openE s = 0 ∧ ∃ db, e = .returned (.tuple #[.pointer (some ⟨db, 0, none⟩), .int .i64 0]) ∧ w.heap.size ≤ db ∧ DicS w' db (Fs.rdAll s).2.1.1 (Fs.cN (Fs.past s)) ((Fs.rdAll s).2.1.2.getLast?.getD []).length ∧ Fs.Rel (Fs.rdAll s).2.1.1 (Fs.rdAll s).2.1.2))
set_option maxRecDepth 100000 in
set_option maxHeartbeats 8000000 in
theorem open_any (s : List UInt8) (w : World) (hs : s.length ≤ 4194304) : Calls Try.prog 13 #[.string (bs s)] w (OpenPost w s) := by
  have hcur : CurT (w.alloc (.cells #[.string (bs s)] 101)) w.heap.size s := Go.Deep.blk_alloc_new _ _
  have hat := atC_any (bs s) w
  have hrd := read_any s w.heap.size _ hcur hs
  have hbel : ∀ w', KeptF (fun k => k = w.heap.size) (w.alloc (.cells #[.string (bs s)] 101)) w' → Below w.heap.size w w' := fun w' k => KeptF.below ((Below.refl _ _).alloc (Nat.le_refl _) _) k (fun k h => by omega) (by simp)
  have hsz : (w.alloc (.cells #[.string (bs s)] 101)).heap.size = w.heap.size + 1 := World.size_alloc _ _
  have hlb := cN_bd (Fs.past s)
  have hwr := fun (w2 : World) (db : Nat) (N : List Fs.Nd) (T : List (List Fs.En)) (h : DicS w2 db N (Fs.cN (Fs.past s)) (T.getLast?.getD []).length) (hR : Fs.Rel N T) (ht : (T.getLast?.getD []).length ≤ 65536) => writes_any s w2 db N T (Fs.cN (Fs.past s)) (T.getLast?.getD []).length h hR ht (by omega)
  obtain ⟨R, hR⟩ : ∃ R, R = Fs.rdAll s := ⟨_, rfl⟩
  have hoE : Fs.openE s = if R.1 ≠ 0 then R.1 else if R.2.2 ≠ [] then 5 else if Fs.right (Fs.addW (Fs.cN (Fs.past s)) (R.2.1.2.getLast?.getD [])) = 0 ∧ Fs.bytes (Fs.addW (Fs.cN (Fs.past s)) (R.2.1.2.getLast?.getD [])) = s then 0 else 3 := by rw [hR]; rfl
  have hful : (Fs.right (Fs.addW (Fs.cN (Fs.past s)) (R.2.1.2.getLast?.getD [])) = 0 ∧ Fs.bytes (Fs.addW (Fs.cN (Fs.past s)) (R.2.1.2.getLast?.getD [])) = s) → ∀ k ∈ R.2.1.2, k ≠ [] := fun h => by
    rw [hR] at h ⊢
    exact (Fs.open_full h).2.2.2
  rw [← hR] at hrd
  unfold OpenPost
  rw [← hR]
  unfold ReadPost at hrd
  obtain ⟨E, ⟨N, T⟩, r⟩ := R
  dsimp only at hrd hoE hful ⊢
  clear hR
  generalize Fs.cN (Fs.past s) = L at *
  generalize Fs.openE s = OE at *
  generalize w.alloc (.cells #[.string (bs s)] 101) = W1 at *
  have HAT := Lib.hid hat
  by_cases h1 : E = 0
  · subst h1
    rw [if_neg (fun q => q rfl)] at hoE
    have hend := fun (w2 : World) (h : CurT w2 w.heap.size r) => end_c r w.heap.size w2 h
    by_cases h2 : r = []
    · subst h2
      rw [if_neg (fun q => q rfl)] at hoE
      by_cases h3 : ∃ t ∈ T, t = []
      · rw [if_neg (fun h => by obtain ⟨t, h4, h5⟩ := h3; exact hful h t h4 h5)] at hoE
        subst hoE
        have HRD : Hid (Calls Try.prog 34 #[.pointer (some ⟨w.heap.size, 0, none⟩)] W1 fun e w' => e = .returned (.tuple #[.pointer none, .int .i64 0]) ∧ CurT w' w.heap.size [] ∧ Below w.heap.size w w') := by
          refine hrd.mono ?_
          rintro e w' ⟨hk, ⟨h0, _⟩ | ⟨_, dv, rfl, hc, hd⟩⟩
          · exact absurd rfl h0
          · rcases hd with ⟨rfl, _⟩ | ⟨_, _, _, _, _, _, hRl⟩
            · exact ⟨rfl, hc, hbel _ hk⟩
            · obtain ⟨t, h4, h5⟩ := h3
              exact absurd h5 (hRl.full t h4)
        have HEND : Hid (∀ w2, CurT w2 w.heap.size [] → Calls Try.prog 35 #[.pointer (some ⟨w.heap.size, 0, none⟩)] w2 fun e' w' => e' = .returned (.int .i64 0) ∧ w' = w2) := fun w2 h => hend w2 h
        clear hrd hend hwr hful h3 hat hcur hbel hlb
        generalize bs s = S at *
        go_enter Try.func13, Try.ntmps13
        go_wp2_with (first | (go_at_call 33; refine HAT.out.mono ?_; rintro e0 w0 ⟨rfl, rfl⟩) | (go_at_call 34; refine HRD.out.mono ?_; rintro e1 w1 ⟨rfl, hc1, hb1⟩; have HC1 := Lib.hid hc1; have HB1 := Lib.hid hb1; clear hc1 hb1) | (go_at_call 35; refine (HEND.out _ HC1.out).mono ?_; rintro e2 w2 ⟨rfl, rfl⟩))
        go_ret2
        exact ⟨HB1.out, .inl ⟨by decide, rfl⟩⟩
      · have hne : ∀ t ∈ T, t ≠ [] := fun t h4 h5 => h3 ⟨t, h4, h5⟩
        have HRD : Hid (Calls Try.prog 34 #[.pointer (some ⟨w.heap.size, 0, none⟩)] W1 fun e w' => ∃ db, e = .returned (.tuple #[.pointer (some ⟨db, 0, none⟩), .int .i64 0]) ∧ CurT w' w.heap.size [] ∧ Below w.heap.size w w' ∧ w.heap.size ≤ db ∧ DicS w' db N L (T.getLast?.getD []).length ∧ Fs.Rel N T) := by
          refine hrd.mono ?_
          rintro e w' ⟨hk, ⟨h0, _⟩ | ⟨_, dv, rfl, hc, hd⟩⟩
          · exact absurd rfl h0
          · rcases hd with ⟨_, t, h4, h5⟩ | ⟨db, nv, rfl, hdb, hrow, hn, hRl⟩
            · exact absurd h5 (hne t h4)
            · exact ⟨db, rfl, hc, hbel _ hk, by omega, ⟨nv, hrow, hn.nods⟩, hRl⟩
        have HEND : Hid (∀ w2, CurT w2 w.heap.size [] → Calls Try.prog 35 #[.pointer (some ⟨w.heap.size, 0, none⟩)] w2 fun e' w' => e' = .returned (.int .i64 0) ∧ w' = w2) := fun w2 h => hend w2 h
        have HWR : Hid (∀ w2 db, DicS w2 db N L (T.getLast?.getD []).length → Fs.Rel N T → Calls Try.prog 36 #[.pointer (some ⟨db, 0, none⟩), .string (bs s)] w2 fun e w' => e = .returned (.bool (decide (Fs.right (Fs.addW L (T.getLast?.getD [])) = 0 ∧ Fs.bytes (Fs.addW L (T.getLast?.getD [])) = s))) ∧ Below w2.heap.size w2 w') := fun w2 db h hRl => by
          refine hwr w2 db N T h hRl ?_
          cases hT : T.getLast? with
          | none => exact Nat.zero_le _
          | some t => exact (hRl.size t (List.mem_of_getLast? hT)).1
        generalize (T.getLast?.getD []).length = tl at *
        by_cases h4 : Fs.right (Fs.addW L (T.getLast?.getD [])) = 0 ∧ Fs.bytes (Fs.addW L (T.getLast?.getD [])) = s
        · rw [if_pos h4] at hoE
          subst hoE
          rw [decide_eq_true h4] at HWR
          clear hrd hend hwr hful h3 hat hcur hbel hlb h4 hne
          generalize bs s = S at *
          go_enter Try.func13, Try.ntmps13
          go_wp2_with (first | (go_at_call 33; refine HAT.out.mono ?_; rintro e0 w0 ⟨rfl, rfl⟩) | (go_at_call 34; refine HRD.out.mono ?_; rintro e1 w1 ⟨db, rfl, hc1, hb1, hdb, hd1, hr1⟩; have HC1 := Lib.hid hc1; have HB1 := Lib.hid hb1; have HDB := Lib.hid hdb; have HD1 := Lib.hid hd1; have HR1 := Lib.hid hr1; clear hc1 hb1 hdb hd1 hr1) | (go_at_call 35; refine (HEND.out _ HC1.out).mono ?_; rintro e2 w2 ⟨rfl, rfl⟩) | (go_at_call 36; refine (HWR.out _ db HD1.out HR1.out).mono ?_; rintro e3 w3 ⟨rfl, hb3⟩; have HB3 := Lib.hid hb3; clear hb3))
          go_ret2
          exact ⟨HB1.out.trans (HB3.out.mono HB1.out.size), .inr ⟨by first | trivial | rfl, db, rfl, HDB.out, HD1.out.below HB3.out, HR1.out⟩⟩
        · rw [if_neg h4] at hoE
          subst hoE
          rw [decide_eq_false h4] at HWR
          clear hrd hend hwr hful h3 hat hcur hbel hlb h4 hne
          generalize bs s = S at *
          go_enter Try.func13, Try.ntmps13
          go_wp2_with (first | (go_at_call 33; refine HAT.out.mono ?_; rintro e0 w0 ⟨rfl, rfl⟩) | (go_at_call 34; refine HRD.out.mono ?_; rintro e1 w1 ⟨db, rfl, hc1, hb1, hdb, hd1, hr1⟩; have HC1 := Lib.hid hc1; have HB1 := Lib.hid hb1; have HDB := Lib.hid hdb; have HD1 := Lib.hid hd1; have HR1 := Lib.hid hr1; clear hc1 hb1 hdb hd1 hr1) | (go_at_call 35; refine (HEND.out _ HC1.out).mono ?_; rintro e2 w2 ⟨rfl, rfl⟩) | (go_at_call 36; refine (HWR.out _ db HD1.out HR1.out).mono ?_; rintro e3 w3 ⟨rfl, hb3⟩; have HB3 := Lib.hid hb3; clear hb3))
          go_ret2
          exact ⟨HB1.out.trans (HB3.out.mono HB1.out.size), .inl ⟨by decide, rfl⟩⟩
    · rw [if_pos h2] at hoE
      subst hoE
      have HRD : Hid (Calls Try.prog 34 #[.pointer (some ⟨w.heap.size, 0, none⟩)] W1 fun e w' => ∃ dv, e = .returned (.tuple #[dv, .int .i64 0]) ∧ CurT w' w.heap.size r ∧ Below w.heap.size w w') := by
        refine hrd.mono ?_
        rintro e w' ⟨hk, ⟨h0, _⟩ | ⟨_, dv, rfl, hc, hd⟩⟩
        · exact absurd rfl h0
        · exact ⟨dv, rfl, hc, hbel _ hk⟩
      have HEND : Hid (∀ w2, CurT w2 w.heap.size r → Calls Try.prog 35 #[.pointer (some ⟨w.heap.size, 0, none⟩)] w2 fun e' w' => e' = .returned (.int .i64 5) ∧ w' = w2) := fun w2 h => by
        have := hend w2 h
        rw [if_pos h2] at this
        exact this
      clear hrd hend hwr hful hat hcur hbel hlb h2
      generalize bs s = S at *
      go_enter Try.func13, Try.ntmps13
      go_wp2_with (first | (go_at_call 33; refine HAT.out.mono ?_; rintro e0 w0 ⟨rfl, rfl⟩) | (go_at_call 34; refine HRD.out.mono ?_; rintro e1 w1 ⟨dv, rfl, hc1, hb1⟩; have HC1 := Lib.hid hc1; have HB1 := Lib.hid hb1; clear hc1 hb1) | (go_at_call 35; refine (HEND.out _ HC1.out).mono ?_; rintro e2 w2 ⟨rfl, rfl⟩))
      go_ret2
      exact ⟨HB1.out, .inl ⟨by decide, rfl⟩⟩
  · rw [if_pos h1] at hoE
    subst hoE
    have HRD : Hid (Calls Try.prog 34 #[.pointer (some ⟨w.heap.size, 0, none⟩)] W1 fun e w' => e = .returned (.tuple #[.pointer none, .int .i64 OE]) ∧ Below w.heap.size w w') := by
      refine hrd.mono ?_
      rintro e w' ⟨hk, ⟨_, rfl⟩ | ⟨h0, _⟩⟩
      · exact ⟨rfl, hbel _ hk⟩
      · exact absurd h0 h1
    clear hrd hwr hful hat hcur hbel hlb
    generalize bs s = S at *
    go_enter Try.func13, Try.ntmps13
    go_wp2_with (first | (go_at_call 33; refine HAT.out.mono ?_; rintro e0 w0 ⟨rfl, rfl⟩) | (go_at_call 34; refine HRD.out.mono ?_; rintro e1 w1 ⟨rfl, hb1⟩; have HB1 := Lib.hid hb1; clear hb1))
    go_ret2
    exact ⟨HB1.out, .inl ⟨h1, rfl⟩⟩
end Go.Proofs.Ytdjiknakbldggaa

/-
  What Get answers, told by the terms; no program is named here.
-/
namespace Go.Proofs.Ytdjiknakbldggaa.Fs
open Go.RowKit

theorem find_way (M : List (List En)) (l : List En) (c : UInt8) : (node M l).2.find? (fun w => w.1 == c) = if behind l c = [] then none else some (c, least (behind l c), at_ M (low (behind l c))) := by
  by_cases hb : behind l c = []
  · rw [if_pos hb, List.find?_eq_none]
    intro x hx
    obtain ⟨⟨c', m, r⟩, hw, rfl⟩ := List.mem_map.1 hx
    have h1 := (mem_ways.1 hw).1
    intro q
    have : c' = c := by simpa using q
    subst this
    exact h1 hb
  · rw [if_neg hb]
    have hin : (c, least (behind l c), low (behind l c)) ∈ ways l := mem_ways.2 ⟨hb, rfl, rfl⟩
    have hin2 : (c, least (behind l c), at_ M (low (behind l c))) ∈ (node M l).2 := List.mem_map.2 ⟨_, hin, rfl⟩
    cases hf : (node M l).2.find? (fun w => w.1 == c) with
    | none =>
      have := List.find?_eq_none.1 hf _ hin2
      simp at this
    | some x =>
      have h1 := List.find?_some hf
      have h2 := List.mem_of_find?_eq_some hf
      obtain ⟨⟨c', m, r⟩, hw, rfl⟩ := List.mem_map.1 h2
      have h3 : c' = c := by simpa using h1
      subst h3
      obtain ⟨_, rfl, rfl⟩ := mem_ways.1 hw
      rfl
theorem nd_map {M : List (List En)} {i : Nat} {l : List En} (h : M[i]? = some l) : nd (M.map (node M)) i = node M l := by
  unfold nd
  rw [List.getD_eq_getElem?_getD, List.getElem?_map, h]
  rfl
theorem gt_get {M : List (List En)} (hM : Net M) : ∀ (s : List UInt8) (i : Nat) (l : List En) (o : Int), M[i]? = some l → (∀ e ∈ l, 0 ≤ e.2 ∧ o + e.2 ≤ mx) → 0 ≤ o → gt (M.map (node M)) s i o = (get l s).map fun v => o + v
  | [], i, l, o, hi, hl, ho => by
    show (nd (M.map (node M)) i).1.map (fun v => wrap64 (o + v)) = (last l).map _
    rw [nd_map hi]
    show (last l).map _ = (last l).map _
    cases hv : last l with
    | none => rfl
    | some v =>
      have h1 := hl _ ((last_mem (hM.good l (List.mem_of_getElem? hi)).rise).1 hv)
      dsimp only at h1
      show some (wrap64 (o + v)) = some (o + v)
      rw [wrap_id ⟨by omega, h1.2⟩]
  | c :: r, i, l, o, hi, hl, ho => by
    have hf := find_way M l c
    unfold get
    by_cases hb : behind l c = []
    · rw [if_pos hb] at hf ⊢
      exact gt_none (by rw [nd_map hi]; exact hf)
    · rw [if_neg hb] at hf ⊢
      rw [gt_some (by rw [nd_map hi]; exact hf)]
      dsimp only
      have hin := hM.ahead i l hi (c, least (behind l c), low (behind l c)) (mem_ways.2 ⟨hb, rfl, rfl⟩)
      have hmem : low (behind l c) ∈ M := List.mem_of_mem_take hin
      have hget : M[at_ M (low (behind l c))]? = some (low (behind l c)) := by
        rw [List.getElem?_eq_getElem (at_lt hmem), at_get hmem]
      obtain ⟨e0, he0, hm0⟩ := least_mem hb
      have h0 := hl _ (mem_behind.1 he0)
      have hp : 0 ≤ least (behind l c) := by rw [← hm0]; exact h0.1
      have hq : o + least (behind l c) ≤ mx := by rw [← hm0]; exact h0.2
      rw [wrap_id ⟨by omega, hq⟩]
      rw [gt_get hM r _ _ _ hget (fun e he => by
        obtain ⟨f, h1, rfl⟩ := List.mem_map.1 he
        have h2 := hl _ (mem_behind.1 h1)
        have h3 := least_le h1
        dsimp only at h2 ⊢
        omega) (by omega)]
      rw [Option.map_map]
      congr 1
      funext v
      show o + least (behind l c) + v = o + (v + least (behind l c))
      omega
/-- A term's number. -/
def lk (l : List En) (s : List UInt8) : Option Int := (l.find? fun e => e.1 == s).map (·.2)
theorem lk_get {l : List En} (h : Rise l) (s : List UInt8) : lk l s = get l s := by
  unfold lk
  cases hf : l.find? (fun e => e.1 == s) with
  | none =>
    cases hg : get l s with
    | none => rfl
    | some o =>
      have h1 := (get_iff s h).1 hg
      have := List.find?_eq_none.1 hf _ h1
      simp at this
  | some e =>
    have h1 := List.find?_some hf
    have h2 := List.mem_of_find?_eq_some hf
    obtain ⟨t, o⟩ := e
    obtain rfl : t = s := by simpa using h1
    exact ((get_iff t h).2 h2).symm
theorem root_at {l : List En} (hne : l ≠ []) : (nodes l)[(nodes l).length - 1]? = some (low l) := by
  obtain ⟨K, hK⟩ := nodes_last hne
  rw [hK, List.length_append, List.getElem?_append_right (by simp)]
  simp
theorem root_get {l : List En} (h : Rise l) (hl : Lw l) (hne : l ≠ []) (s : List UInt8) : gt ((nodes l).map (node (nodes l))) s ((nodes l).length - 1) (least l) = lk l s := by
  have hb := least_bd hl
  rw [lk_get h, gt_get (nodes_net h) s _ _ _ (root_at hne) (fun e he => by
    obtain ⟨f, h1, rfl⟩ := List.mem_map.1 he
    have h2 := hl f h1
    have h3 := least_le h1
    dsimp only
    omega) hb.1]
  apply Option.ext
  intro o
  rw [Option.map_eq_some_iff, get_iff s h]
  constructor
  · rintro ⟨v, h1, rfl⟩
    obtain ⟨f, h2, h3⟩ := List.mem_map.1 ((get_iff s (low_rise h)).1 h1)
    obtain ⟨t, p⟩ := f
    simp only [Prod.mk.injEq] at h3
    obtain ⟨rfl, rfl⟩ := h3
    rw [show least l + (p - least l) = p by omega]
    exact h2
  · intro h1
    exact ⟨o - least l, (get_iff s (low_rise h)).2 (List.mem_map.2 ⟨(s, o), h1, rfl⟩), by omega⟩
/-- The bytes of few terms are few. -/
theorem bytes_few {l : List En} (h : Fine l) (ht : total l ≤ 600) : (bytes l).length ≤ 4194304 := by
  have h1 := nodes_length h.rise
  have key : ∀ K : List (List En), ((K.map (nodeB (nodes l))).flatMap id).length ≤ 6930 * K.length := by
    intro K
    induction K with
    | nil => exact Nat.le_refl _
    | cons k K ih =>
      rw [List.map_cons, List.flatMap_cons, List.length_append, List.length_cons]
      have := bytesN_length (n := node (nodes l) k) (by show ((ways k).map _).length ≤ 256; rw [List.length_map]; exact ways_few k)
      have e : (id (nodeB (nodes l) k)).length ≤ 6930 := this
      omega
  have h2 := key (nodes l)
  have h3 := numB_len ((nodes l).length : Nat)
  have h4 := numB_len (least l)
  have h5 : (txt (nodes l)).flatMap id = ((nodes l).map (nodeB (nodes l))).flatMap id := rfl
  unfold bytes
  rw [List.length_append, List.length_append, h5]
  omega
theorem last_length (l : List En) : ((nodes l).getLast?.getD []).length = l.length := by
  by_cases hl : l = []
  · subst hl; rfl
  · obtain ⟨K, hK⟩ := nodes_last hl
    rw [hK, List.getLast?_append]
    show (low l).length = l.length
    unfold low
    rw [List.length_map]
end Go.Proofs.Ytdjiknakbldggaa.Fs

/-
  What is opened of what was built; awake.
-/
namespace Go.Proofs.Ytdjiknakbldggaa
open Go.RowKit Go.Maps

/-- A dictionary of these terms. -/
structure Dc (w : World) (db : Nat) (l : List Fs.En) : Prop where
  dic : DicS w db ((Fs.nodes l).map (Fs.node (Fs.nodes l))) (Fs.least l) l.length
  rel : Fs.Rel ((Fs.nodes l).map (Fs.node (Fs.nodes l))) (Fs.nodes l)
theorem Dc.below {w w' : World} {db : Nat} {l : List Fs.En} (h : Dc w db l) (hb : Below w.heap.size w w') : Dc w' db l := ⟨h.dic.below hb, h.rel⟩
theorem open_built (l : List Fs.En) (w : World) (h : Fs.right l = 0) (hm : ∀ e ∈ l, e.2 ≤ Fs.mx) (ht : Fs.total l ≤ 600) :
    Calls Try.prog 13 #[.string (bs (Fs.built l))] w fun e w' => ∃ db, e = .returned (.tuple #[.pointer (some ⟨db, 0, none⟩), .int .i64 0]) ∧ Below w.heap.size w w' ∧ w.heap.size ≤ db ∧ Dc w' db l := by
  have hf := Fs.right_ok h
  have hb : Fs.built l = Fs.bytes l := by unfold Fs.built; exact if_pos h
  rw [hb]
  have ho := Fs.open_bytes h hm
  obtain ⟨h1, h2⟩ := Fs.rd_bytes hf hm
  have hq := open_any (Fs.bytes l) w (Fs.bytes_few hf ht)
  unfold OpenPost at hq
  rw [h1, h2, ho] at hq
  dsimp only at hq
  rw [Fs.last_length] at hq
  refine hq.mono ?_
  rintro e w' ⟨hb, ⟨h0, _⟩ | ⟨_, db, rfl, hdb, hd, hR⟩⟩
  · exact absurd rfl h0
  · exact ⟨db, rfl, hb, hdb, hd, hR⟩
/-- A term's number, and whether it is there. -/
theorem get_dc (l : List Fs.En) (s : List UInt8) (w : World) (db : Nat) (h : Dc w db l) (hr : Fs.right l = 0) (hm : ∀ e ∈ l, e.2 ≤ Fs.mx) (hs : s.length ≤ 140737488355328) :
    Calls Try.prog 18 #[.pointer (some ⟨db, 0, none⟩), .string (bs s)] w (GetPost w (Fs.lk l s)) := by
  have hf := Fs.right_ok hr
  by_cases hl : l = []
  · subst hl
    exact get_empty _ w db _ _ h.dic
  · have hlw := Fs.fine_lw hf hm
    have hpos : 0 < ((Fs.nodes l).map (Fs.node (Fs.nodes l))).length := by
      obtain ⟨K, hK⟩ := Fs.nodes_last hl
      rw [List.length_map, hK, List.length_append]
      simp
    have := get_any s w db _ _ _ h.dic h.rel.ahead hpos hs
    rw [List.length_map, Fs.root_get hf.rise hlw hl] at this
    exact this
theorem count_dc (l : List Fs.En) (w : World) (db : Nat) (h : Dc w db l) : Calls Try.prog 17 #[.pointer (some ⟨db, 0, none⟩)] w fun e w' => e = .returned (.tuple #[.int .i64 (l.length : Int), .int .i64 ((Fs.nodes l).length : Int)]) ∧ Below w.heap.size w w' := by
  have := count_any w db _ _ _ h.dic
  rw [List.length_map] at this
  refine this.mono ?_
  rintro e w' ⟨rfl, hd⟩
  exact ⟨rfl, hd.below⟩
theorem all_dc (l : List Fs.En) (w : World) (db : Nat) (h : Dc w db l) (hr : Fs.right l = 0) (hm : ∀ e ∈ l, e.2 ≤ Fs.mx) : Calls Try.prog 15 #[.pointer (some ⟨db, 0, none⟩)] w fun e w' => ∃ v, e = .returned v ∧ OwnE w' w.heap.size v l ∧ Below w.heap.size w w' := by
  have hf := Fs.right_ok hr
  have hlw := Fs.fine_lw hf hm
  have hb := Fs.least_bd hlw
  have hmx : Fs.mx = 9223372036854775807 := rfl
  have hall := Fs.all_bytes hf hm
  obtain ⟨h1, h2⟩ := Fs.rd_bytes hf hm
  unfold Fs.allOf at hall
  rw [h1, h2] at hall
  have hq := all_any w db _ _ _ _ h.dic h.rel hf.few (by omega)
  unfold AllPostE at hq
  dsimp only at hall
  rw [hall] at hq
  exact hq
theorem root_dc (l : List Fs.En) (w : World) (db : Nat) (h : Dc w db l) : Calls Try.prog 20 #[.pointer (some ⟨db, 0, none⟩)] w fun e w' => e = .returned (.tuple #[.int .i64 (((Fs.nodes l).length : Int) - 1), .int .i64 (Fs.least l)]) ∧ Below w.heap.size w w' := by
  have := root_any w db _ _ _ h.dic
  rw [List.length_map] at this
  refine this.mono ?_
  rintro e w' ⟨rfl, hd⟩
  exact ⟨rfl, hd.below⟩
theorem three_right : Fs.right threeL = 0 := by decide
theorem three_mx : ∀ e ∈ threeL, e.2 ≤ Fs.mx := by decide
theorem three_total : Fs.total threeL ≤ 600 := by decide
theorem three_dog : Fs.lk threeL [100, 111, 103] = some 7 := by decide
set_option maxRecDepth 100000 in
theorem three_nodes : (Fs.nodes threeL).length = 6 := by decide +kernel
theorem dog_bs : (⟨#[100, 111, 103]⟩ : ByteArray) = bs [100, 111, 103] := by rfl
set_option maxRecDepth 100000 in
set_option maxHeartbeats 4000000 in
theorem awake_any (w : World) : Calls Try.prog 8 #[] w fun e w' => e = .returned (.bool true) ∧ Below w.heap.size w w' := by
  have HT := Lib.hid (three_any w)
  have HBU : Hid (∀ w1 v, OwnE w1 w.heap.size v threeL → Calls Try.prog 10 #[v] w1 fun e w' => e = .returned (.tuple #[.string (bs (Fs.built threeL)), .int .i64 0]) ∧ Below w1.heap.size w1 w') := fun w1 v h => by
    have := build_any w1 v threeL h.ens three_mx
    unfold BuildPost at this
    rw [three_right] at this
    exact this
  have HOP : Hid (∀ w1, Calls Try.prog 13 #[.string (bs (Fs.built threeL))] w1 fun e w' => ∃ db, e = .returned (.tuple #[.pointer (some ⟨db, 0, none⟩), .int .i64 0]) ∧ Below w1.heap.size w1 w' ∧ w1.heap.size ≤ db ∧ Dc w' db threeL) := fun w1 => open_built threeL w1 three_right three_mx three_total
  have HGE : Hid (∀ w1 db, Dc w1 db threeL → Calls Try.prog 18 #[.pointer (some ⟨db, 0, none⟩), .string ⟨#[100, 111, 103]⟩] w1 fun e w' => e = .returned (.tuple #[.int .i64 7, .bool true]) ∧ Below w1.heap.size w1 w') := fun w1 db h => by
    have := get_dc threeL [100, 111, 103] w1 db h three_right three_mx (by decide)
    unfold GetPost at this
    rw [three_dog] at this
    rw [dog_bs]
    exact this
  have HCO : Hid (∀ w1 db, Dc w1 db threeL → Calls Try.prog 17 #[.pointer (some ⟨db, 0, none⟩)] w1 fun e w' => e = .returned (.tuple #[.int .i64 3, .int .i64 6]) ∧ Below w1.heap.size w1 w') := fun w1 db h => by
    have := count_dc threeL w1 db h
    rw [three_nodes] at this
    exact this
  generalize bs (Fs.built threeL) = S at *
  go_enter Try.func8, Try.ntmps8
  go_wp2_with (first | (go_at_call 24; go_loud ((refine HT.out.mono ?_; rintro e0 w0 ⟨v0, rfl, ho0, hb0⟩; have HO0 := Lib.hid ho0; have HB0 := Lib.hid hb0; clear ho0 hb0))) | (go_at_call 10; go_loud ((refine (HBU.out w0 v0 HO0.out).mono ?_; rintro e1 w1 ⟨rfl, hb1⟩; have HB1 := Lib.hid (HB0.out.trans (hb1.mono HB0.out.size)); clear hb1))) | (go_at_call 13; go_loud ((refine (HOP.out w1).mono ?_; rintro e2 w2 ⟨db, rfl, hb2, hdb, hd2⟩; have HB2 := Lib.hid (HB1.out.trans (hb2.mono HB1.out.size)); have HD2 := Lib.hid hd2; clear hb2 hd2 hdb))) | (go_at_call 18; go_loud ((refine (HGE.out w2 db HD2.out).mono ?_; rintro e3 w3 ⟨rfl, hb3⟩; have HB3 := Lib.hid (HB2.out.trans (hb3.mono HB2.out.size)); have HD3 := Lib.hid (HD2.out.below hb3); clear hb3))) | (go_at_call 17; go_loud ((refine (HCO.out w3 db HD3.out).mono ?_; rintro e4 w4 ⟨rfl, hb4⟩; have HB4 := Lib.hid (HB3.out.trans (hb4.mono HB3.out.size)); clear hb4))))
  go_ret
  exact ⟨rfl, HB4.out⟩
end Go.Proofs.Ytdjiknakbldggaa

/-
  A dictionary that is nil has nothing: the walk of FstNil.
-/
namespace Go.Proofs.Ytdjiknakbldggaa
open Go.RowKit Go.Maps

set_option maxRecDepth 100000 in
set_option maxHeartbeats 4000000 in
theorem nil_walk (s : ByteArray) (i : Int) (w : World) : Calls Try.prog 7 #[.string s, .int .i64 i] w fun e w' => e = .returned (.bool true) ∧ Below w.heap.size w w' := by
  have HG : Hid (∀ w1, Calls Try.prog 18 #[.pointer none, .string s] w1 fun e w' => e = .returned (.tuple #[.int .i64 0, .bool false]) ∧ Below w1.heap.size w1 w') := fun w1 => get_nil s w1
  go_enter Try.func7, Try.ntmps7
  go_wp2_with (first | (go_at_call 18; go_loud ((refine (HG.out _).mono ?_; rintro e0 w0 ⟨rfl, hb0⟩; have HB0 := Lib.hid hb0; clear hb0))) | (go_at_call 17; go_loud ((refine (count_nil _).mono ?_; rintro e1 w1 ⟨rfl, rfl⟩))) | (go_at_call 20; go_loud ((refine (root_nil _).mono ?_; rintro e2 w2 ⟨rfl, rfl⟩))) | (go_at_call 21; go_loud ((refine (node_nil i _).mono ?_; rintro e3 w3 ⟨rfl, hb3⟩; have HB3 := Lib.hid (HB0.out.trans (hb3.mono HB0.out.size)); clear hb3))) | (go_at_call 8; go_loud ((refine (awake_any _).mono ?_; rintro e4 w4 ⟨rfl, hb4⟩; have HB4 := Lib.hid ((HB3.out.alloc HB3.out.size _).trans (hb4.mono (HB3.out.alloc HB3.out.size _).size)); clear hb4))) | (go_at_call 15; go_loud ((refine (all_nil _).mono ?_; rintro e5 w5 ⟨rfl, hb5⟩; have HB5 := Lib.hid (HB4.out.trans (hb5.mono HB4.out.size)); clear hb5))))
  go_ret
  exact ⟨rfl, HB5.out⟩
end Go.Proofs.Ytdjiknakbldggaa

/-
  The bytes of every list: the walk of FstBuilds.
-/
namespace Go.Proofs.Ytdjiknakbldggaa
open Go.RowKit Go.Maps

theorem ent_ones (l : List Fs.En) : ∀ u ∈ entV l, u.oneCell' = true := by
  intro u hu
  obtain ⟨x, _, hx⟩ := List.mem_flatMap.1 hu
  simp only [List.mem_cons, List.not_mem_nil, or_false] at hx
  rcases hx with rfl | rfl <;> rfl
theorem ent_news {w : World} {g o : Nat} {l : List Fs.En} (h : EnC w g o l) : ∀ j u, (entV l)[j]? = some u → w.cell? ((⟨g, o, none⟩ : Addr).add j) = some u := by
  intro j u hu
  have hj : j < (entV l).length := (List.getElem?_eq_some_iff.1 hu).1
  rw [entV_length] at hj
  have hk : j / 2 < l.length := by omega
  obtain ⟨b1, b2⟩ := h (j / 2) hk
  have a1 := entV_s l (j / 2) hk
  have a2 := entV_n l (j / 2) hk
  have hadd : (⟨g, o, none⟩ : Addr).add j = ⟨g, o + j, none⟩ := by unfold Addr.add; split <;> simp_all
  rw [hadd]
  have hm : j % 2 = 0 ∨ j % 2 = 1 := by omega
  rcases hm with hm | hm
  · rw [show j = j / 2 * 2 by omega, a1] at hu
    rw [← hu, ← b1]
    congr 2
    omega
  · rw [show j = j / 2 * 2 + 1 by omega, a2] at hu
    rw [← hu, ← b2]
    congr 2
    omega
/-- A list with one term more behind it: the slice of the list, and the term. -/
theorem ents_split {w : World} {B g n cap : Nat} {l : List Fs.En} {x : Fs.En} (h : OwnE w B (.slice (some ⟨g, 0, none⟩) (n + 1) cap) (l ++ [x])) (hn : n = l.length) : n + 1 ≤ cap ∧ cap ≤ 9223372036854775807 ∧ g < w.heap.size ∧ w.cell? ⟨g, n * 2, none⟩ = some (.string (bs x.1)) ∧ EnS w (.slice (some ⟨g, 0, none⟩) n cap) l := by
  subst hn
  obtain ⟨g', a', c', e1, h2, h3, h4, _, _, h5, _⟩ := h.opened
  have hl : (l ++ [x]).length = l.length + 1 := by simp
  rw [hl] at e1 h2 h4
  injection e1 with e2 e3 e4
  subst e4
  obtain ⟨e5, h6⟩ := h4 (by omega)
  rw [← e2] at e5
  injection e5 with e5
  injection e5 with e5
  subst e5
  refine ⟨h2, h3, h6, ?_, some ⟨g, 0, none⟩, cap, rfl, by omega, h3, fun _ => ⟨g, 0, rfl, h6, fun i hi => ?_⟩⟩
  · have := (h5 l.length (by omega)).1
    rw [Nat.zero_add] at this
    rw [this]
    simp
  · have := h5 i (by omega)
    rw [List.getElem_append_left hi] at this
    exact this
theorem mark_bs : (⟨#[109, 97, 114, 107]⟩ : ByteArray) = bs [109, 97, 114, 107] := by rfl
/-- The long lists, of which nothing is asked. -/
theorem builds_far (w : World) (v : Value) (l : List Fs.En) (h : EnS w v l) (hb : ∀ e ∈ l, e.1.length ≤ 140737488355328) (hl : lightF l = false) :
    Calls Try.prog 3 #[v] w fun e w' => e = .returned (.bool true) ∧ Below w.heap.size w w' := by
  have HLI : Hid (∀ w', Below w.heap.size w w' → Calls Try.prog 9 #[v] w' fun e w'' => e = .returned (.bool false) ∧ Below w'.heap.size w' w'') := fun w' hbw => by
    have := light_any w' v l (h.below hbw (Nat.le_refl _)) hb
    rw [hl] at this
    exact this
  obtain ⟨a, cap, rfl, -, -, -⟩ := h
  clear hb hl
  generalize l.length = n at *
  go_enter Try.func3, Try.ntmps3
  go_wp2_with (first | (go_at_call 8; go_loud ((refine (awake_any _).mono ?_; rintro e0 w0 ⟨rfl, hb0⟩; have HB0 := Lib.hid hb0; clear hb0))) | (go_at_call 9; go_loud ((refine (HLI.out w0 HB0.out).mono ?_; rintro e1 w1 ⟨rfl, hb1⟩; have HB1 := Lib.hid (HB0.out.trans (hb1.mono HB0.out.size)); clear hb1))))
  go_ret
  exact ⟨rfl, HB1.out⟩
set_option maxRecDepth 100000 in
set_option maxHeartbeats 8000000 in
theorem builds_some (w : World) (x : Addr) (n cap : Nat) (l : List Fs.En) (h : EnS w (.slice (some x) n cap) l) (hn : n = l.length) (hc : ∀ j u, (entV l)[j]? = some u → w.cell? (x.add j) = some u ∧ (x.add j).block < w.heap.size) (hb : ∀ e ∈ l, e.1.length ≤ 140737488355328) (hm : ∀ e ∈ l, e.2 ≤ 9223372036854775807) (hl : lightF l = true) :
    Calls Try.prog 3 #[.slice (some x) n cap] w fun e w' => e = .returned (.bool true) ∧ Below w.heap.size w w' := by
  have hn2 : n ≤ 120 := by
    unfold lightF at hl
    rw [Bool.and_eq_true] at hl
    have := of_decide_eq_true hl.1
    omega
  have HLI : Hid (∀ w', Below w.heap.size w w' → Calls Try.prog 9 #[.slice (some x) n cap] w' fun e w'' => e = .returned (.bool true) ∧ Below w'.heap.size w' w'') := fun w' hbw => by
    have := light_any w' _ l (h.below hbw (Nat.le_refl _)) hb
    rw [hl] at this
    exact this
  have HBU : Hid (∀ w' v', EnS w' v' l → Calls Try.prog 10 #[v'] w' fun e w'' => e = .returned (.tuple #[.string (bs (Fs.built l)), .int .i64 (Fs.right l)]) ∧ Below w'.heap.size w' w'') := fun w' v' hv => build_any w' v' l hv hm
  have HBR : Hid (∀ w', Below w.heap.size w w' → Calls Try.prog 11 #[.slice (some x) n cap] w' fun e w'' => e = .returned (.tuple #[.string (bs (Fs.built l)), .int .i64 (Fs.right l)]) ∧ Below w'.heap.size w' w'') := fun w' hbw => buildR_any w' _ l (h.below hbw (Nat.le_refl _)) hm
  have HSM : Hid (∀ w' v', EnS w' v' l → Below w.heap.size w w' → Calls Try.prog 12 #[v', .slice (some x) n cap] w' fun e w'' => e = .returned (.bool true) ∧ Below w'.heap.size w' w'') := fun w' v' hv hbw => by
    have := sameS_any w' v' _ l l hv (h.below hbw (Nat.le_refl _))
    rw [decide_eq_true rfl] at this
    exact this
  obtain ⟨ii, hi, hz0, hz1, hz2⟩ := info_parts Try.infoE
  have HPU : Hid (∀ w1 w2 g cap2 xs v1, xs = entV l → Below w.heap.size w w1 → w1.ownsRow w.heap.size 26 2 v1 n xs → w2.ownsRow w.heap.size 26 2 (.slice (some ⟨g, 0, none⟩) (n + 1) cap2) (n + 1) (xs ++ [.string ⟨#[109, 97, 114, 107]⟩, .int .i64 0]) → Grew w1 w2 v1 (.slice (some ⟨g, 0, none⟩) (n + 1) cap2) → (n + 1 ≤ cap2 ∧ cap2 ≤ 9223372036854775807 ∧ g < w2.heap.size ∧ w2.cell? ⟨g, n * 2, none⟩ = some (.string ⟨#[109, 97, 114, 107]⟩) ∧ EnS w2 (.slice (some ⟨g, 0, none⟩) n cap2) l) ∧ Below w.heap.size w w2) := fun w1 w2 g cap2 xs v1 hxs hb1 ho1 ho2 hg2 => by
    subst hxs
    rw [mark_bs] at ho2 ⊢
    rw [hn] at ho2
    have h1 := OwnE.push (x := ([109, 97, 114, 107], 0)) ho2
    rw [← hn] at h1
    exact ⟨ents_split h1 hn, hg2.below hb1 hb1.size (fun k hk => (ho1.lt k hk).1)⟩
  have HNW : Hid (∀ w', Below w.heap.size w w' → (∀ j u, (entV l)[j]? = some u → w'.cell? (x.add j) = some u) ∧ (entV l).length = n * 2 ∧ ∀ u ∈ entV l, u.oneCell' = true) := fun w' hbw => ⟨fun j u hj => (hbw.cell (hc j u hj).2).trans (hc j u hj).1, by rw [entV_length, hn], ent_ones l⟩
  have hl1 : n + 1 ≤ 140737488355328 := by omega
  have hl2 : (n + 1) * 24 ≤ 140737488355328 := by omega
  have HL0 := fun (w0 : World) (hb : Below w.heap.size w w0) => World.ownsRow_lit (base := w.heap.size) (e := 26) (size := 2) w0 #[] 0 hb.size (by unfold maxLen; omega) rfl
  have HL0 := Lib.hid HL0
  clear h hn hc hb hm hl
  generalize bs (Fs.built l) = S at *
  generalize Fs.right l = E at *
  go_enter Try.func3, Try.ntmps3
  go_wp2_with (first | (go_at_call 8; go_loud ((refine (awake_any _).mono ?_; rintro e0 w0 ⟨rfl, hb0⟩; have HB0 := Lib.hid hb0; clear hb0))) | (go_at_call 9; go_loud ((refine (HLI.out w0 HB0.out).mono ?_; rintro e1 w1 ⟨rfl, hb1⟩; have HB1 := Lib.hid (HB0.out.trans (hb1.mono HB0.out.size)); have hsz1 := HB1.out.size; clear hb1))) | (at_builtin; go_loud ((refine wpList_pushR rfl _ _ 22 26 rfl ii _ 2 24 Try.underlying22 hi hz0 hz1 hz2 rfl (by decide) w.heap.size HO2.out.1.size (.slice a2 n c2) n (entV l) rfl HO2.out.2 [.string ⟨#[109, 97, 114, 107]⟩, .int .i64 0] rfl (one_of rfl) (by first | rfl | (rw [World.size_alloc]; rfl)) hl2 hl1 ?_; intro g3 cap3 w3 hown3 hgr3; obtain ⟨⟨hc1, hc2, hg3, hmk, hen⟩, hb3⟩ := HPU.out _ w3 g3 cap3 _ _ rfl HO2.out.1 HO2.out.2 hown3 hgr3; have HEN := Lib.hid hen; have HMK := Lib.hid hmk; have HG3 := Lib.hid hg3; have HB3 := Lib.hid hb3; clear hown3 hgr3 hmk hen hb3 hg3))) | (at_builtin; go_loud ((refine wpList_append_own _ rfl _ _ 22 rfl w.heap.size 26 ii _ 2 24 Try.underlying22 hi hz0 hz1 hz2 rfl (by decide) _ _ _ rfl (HL0.out w1 HB1.out) x n cap (entV l) rfl (HNW.out _ HB1.out).2.1 (HNW.out _ (HB1.out.alloc hsz1 _)).1 (HNW.out _ HB1.out).2.2 (by unfold maxLen; omega) (by omega) (by simp; omega) ?_; intro v2 w2 hown2 hg2 _; have hb2 : Below w.heap.size w w2 := (HB1.out.alloc hsz1 _).grown hg2 (by simp; omega) (fun k hk => by have hk2 : some w1.heap.size = some k := hk; injection hk2 with hk2; omega); have hown2 : w2.ownsRow w.heap.size 26 2 v2 n (entV l) := (by simpa using hown2); obtain ⟨a2, c2, rfl, _⟩ := own_form hown2; have HO2 := Lib.hid (And.intro hb2 hown2); clear hown2 hg2 hb2))) | (go_at_call 10; go_loud ((refine (HBU.out w3 _ HEN.out).mono ?_; rintro e4 w4 ⟨rfl, hb4⟩; have HB4 := Lib.hid hb4; have HB4w := Lib.hid (HB3.out.trans (hb4.mono HB3.out.size)); clear hb4))) | (go_at_call 11; go_loud ((refine (HBR.out w4 HB4w.out).mono ?_; rintro e5 w5 ⟨rfl, hb5⟩; have HB5 := Lib.hid (HB4.out.trans (hb5.mono HB4.out.size)); have HB5w := Lib.hid (HB3.out.trans (HB5.out.mono HB3.out.size)); clear hb5))) | (go_at_call 12; go_loud ((refine (HSM.out w5 _ (HEN.out.below HB5.out (Nat.le_refl _)) HB5w.out).mono ?_; rintro e6 w6 ⟨rfl, hb6⟩; have HB6 := Lib.hid (HB5.out.trans (hb6.mono HB5.out.size)); have HB6w := Lib.hid (HB3.out.trans (HB6.out.mono HB3.out.size)); have k6 : w6.cell? ⟨g3, n * 2, none⟩ = some (.string ⟨#[109, 97, 114, 107]⟩) := (HB6.out.cell (p := ⟨g3, n * 2, none⟩) HG3.out).trans HMK.out; clear hb6))))
  go_ret
  exact ⟨rfl, HB6w.out⟩
set_option maxRecDepth 100000 in
set_option maxHeartbeats 8000000 in
theorem builds_none (w : World)  :
    Calls Try.prog 3 #[.slice none 0 0] w fun e w' => e = .returned (.bool true) ∧ Below w.heap.size w w' := by
  have h : EnS w (.slice none 0 0) [] := ⟨none, 0, rfl, Nat.le_refl _, by omega, fun q => absurd q (Nat.not_lt_zero _)⟩
  obtain ⟨l, hle⟩ : ∃ l : List Fs.En, l = [] := ⟨_, rfl⟩
  obtain ⟨n, hne⟩ : ∃ n : Nat, n = 0 := ⟨_, rfl⟩
  rw [← hle] at h
  have hn : n = l.length := by rw [hle, hne]; rfl
  have hn2 : n ≤ 120 := by omega
  have hb : ∀ e ∈ l, e.1.length ≤ 140737488355328 := by rw [hle]; intro e q; cases q
  have hm : ∀ e ∈ l, e.2 ≤ 9223372036854775807 := by rw [hle]; intro e q; cases q
  have hl : lightF l = true := by rw [hle]; decide
  have HLI : Hid (∀ w', Below w.heap.size w w' → Calls Try.prog 9 #[.slice none 0 0] w' fun e w'' => e = .returned (.bool true) ∧ Below w'.heap.size w' w'') := fun w' hbw => by
    have := light_any w' _ l (h.below hbw (Nat.le_refl _)) hb
    rw [hl] at this
    exact this
  have HBU : Hid (∀ w' v', EnS w' v' l → Calls Try.prog 10 #[v'] w' fun e w'' => e = .returned (.tuple #[.string (bs (Fs.built l)), .int .i64 (Fs.right l)]) ∧ Below w'.heap.size w' w'') := fun w' v' hv => build_any w' v' l hv hm
  have HBR : Hid (∀ w', Below w.heap.size w w' → Calls Try.prog 11 #[.slice none 0 0] w' fun e w'' => e = .returned (.tuple #[.string (bs (Fs.built l)), .int .i64 (Fs.right l)]) ∧ Below w'.heap.size w' w'') := fun w' hbw => buildR_any w' _ l (h.below hbw (Nat.le_refl _)) hm
  have HSM : Hid (∀ w' v', EnS w' v' l → Below w.heap.size w w' → Calls Try.prog 12 #[v', .slice none 0 0] w' fun e w'' => e = .returned (.bool true) ∧ Below w'.heap.size w' w'') := fun w' v' hv hbw => by
    have := sameS_any w' v' _ l l hv (h.below hbw (Nat.le_refl _))
    rw [decide_eq_true rfl] at this
    exact this
  obtain ⟨ii, hi, hz0, hz1, hz2⟩ := info_parts Try.infoE
  have HPU : Hid (∀ w1 w2 g cap2 xs v1, xs = entV l → Below w.heap.size w w1 → w1.ownsRow w.heap.size 26 2 v1 n xs → w2.ownsRow w.heap.size 26 2 (.slice (some ⟨g, 0, none⟩) (n + 1) cap2) (n + 1) (xs ++ [.string ⟨#[109, 97, 114, 107]⟩, .int .i64 0]) → Grew w1 w2 v1 (.slice (some ⟨g, 0, none⟩) (n + 1) cap2) → (n + 1 ≤ cap2 ∧ cap2 ≤ 9223372036854775807 ∧ g < w2.heap.size ∧ w2.cell? ⟨g, n * 2, none⟩ = some (.string ⟨#[109, 97, 114, 107]⟩) ∧ EnS w2 (.slice (some ⟨g, 0, none⟩) n cap2) l) ∧ Below w.heap.size w w2) := fun w1 w2 g cap2 xs v1 hxs hb1 ho1 ho2 hg2 => by
    subst hxs
    rw [mark_bs] at ho2 ⊢
    rw [hn] at ho2
    have h1 := OwnE.push (x := ([109, 97, 114, 107], 0)) ho2
    rw [← hn] at h1
    exact ⟨ents_split h1 hn, hg2.below hb1 hb1.size (fun k hk => (ho1.lt k hk).1)⟩
  have hl1 : n + 1 ≤ 140737488355328 := by omega
  have hl2 : (n + 1) * 24 ≤ 140737488355328 := by omega
  have HL0 := fun (w0 : World) (hb : Below w.heap.size w w0) => World.ownsRow_lit (base := w.heap.size) (e := 26) (size := 2) w0 #[] 0 hb.size (by unfold maxLen; omega) rfl
  have HL0 := Lib.hid HL0
  have HLE := Lib.hid hle
  subst hne
  clear h hn hb hm hl hle
  generalize bs (Fs.built l) = S at *
  generalize Fs.right l = E at *
  go_enter Try.func3, Try.ntmps3
  go_wp2_with (first | (go_at_call 8; go_loud ((refine (awake_any _).mono ?_; rintro e0 w0 ⟨rfl, hb0⟩; have HB0 := Lib.hid hb0; clear hb0))) | (go_at_call 9; go_loud ((refine (HLI.out w0 HB0.out).mono ?_; rintro e1 w1 ⟨rfl, hb1⟩; have HB1 := Lib.hid (HB0.out.trans (hb1.mono HB0.out.size)); have hsz1 := HB1.out.size; clear hb1))) | (at_builtin; go_loud ((refine wpList_append_own_none rfl _ _ 22 rfl w.heap.size 26 ii 2 Try.underlying22 hi (.slice (some ⟨w1.heap.size, 0, none⟩) 0 0) 0 [] rfl (HL0.out w1 HB1.out) rfl ?_; have HO2 := Lib.hid (And.intro (HB1.out.alloc hsz1 (.cells #[] 26)) (HL0.out w1 HB1.out))))) | (at_builtin; go_loud ((refine wpList_pushR rfl _ _ 22 26 rfl ii _ 2 24 Try.underlying22 hi hz0 hz1 hz2 rfl (by decide) w.heap.size HO2.out.1.size (.slice (some ⟨w1.heap.size, 0, none⟩) 0 0) 0 [] rfl HO2.out.2 [.string ⟨#[109, 97, 114, 107]⟩, .int .i64 0] rfl (one_of rfl) (by first | rfl | (rw [World.size_alloc]; rfl)) hl2 hl1 ?_; intro g3 cap3 w3 hown3 hgr3; obtain ⟨⟨hc1, hc2, hg3, hmk, hen⟩, hb3⟩ := HPU.out _ w3 g3 cap3 _ _ (by rw [HLE.out]; rfl) HO2.out.1 HO2.out.2 hown3 hgr3; have HEN := Lib.hid hen; have HMK := Lib.hid hmk; have HG3 := Lib.hid hg3; have HB3 := Lib.hid hb3; clear hown3 hgr3 hmk hen hb3 hg3))) | (go_at_call 10; go_loud ((refine (HBU.out w3 _ HEN.out).mono ?_; rintro e4 w4 ⟨rfl, hb4⟩; have HB4 := Lib.hid hb4; have HB4w := Lib.hid (HB3.out.trans (hb4.mono HB3.out.size)); clear hb4))) | (go_at_call 11; go_loud ((refine (HBR.out w4 HB4w.out).mono ?_; rintro e5 w5 ⟨rfl, hb5⟩; have HB5 := Lib.hid (HB4.out.trans (hb5.mono HB4.out.size)); have HB5w := Lib.hid (HB3.out.trans (HB5.out.mono HB3.out.size)); clear hb5))) | (go_at_call 12; go_loud ((refine (HSM.out w5 _ (HEN.out.below HB5.out (Nat.le_refl _)) HB5w.out).mono ?_; rintro e6 w6 ⟨rfl, hb6⟩; have HB6 := Lib.hid (HB5.out.trans (hb6.mono HB5.out.size)); have HB6w := Lib.hid (HB3.out.trans (HB6.out.mono HB3.out.size)); have k6 : w6.cell? ⟨g3, 0 * 2, none⟩ = some (.string ⟨#[109, 97, 114, 107]⟩) := (HB6.out.cell (p := ⟨g3, 0 * 2, none⟩) HG3.out).trans HMK.out; clear hb6))))
  go_ret
  exact ⟨rfl, HB6w.out⟩
/-- Where terms lie that came in. -/
def EnX (w : World) (v : Value) (l : List Fs.En) : Prop := v = .slice none 0 0 ∧ l = [] ∨ ∃ x cap, v = .slice (some x) l.length cap ∧ ∀ j u, (entV l)[j]? = some u → w.cell? (x.add j) = some u ∧ (x.add j).block < w.heap.size
theorem builds_walk (w : World) (v : Value) (l : List Fs.En) (h : EnS w v l) (hx : EnX w v l) (hb : ∀ e ∈ l, e.1.length ≤ 140737488355328) (hm : ∀ e ∈ l, e.2 ≤ 9223372036854775807) :
    Calls Try.prog 3 #[v] w fun e w' => e = .returned (.bool true) ∧ Below w.heap.size w w' := by
  cases hl : lightF l with
  | false => exact builds_far w v l h hb hl
  | true =>
    rcases hx with ⟨rfl, _⟩ | ⟨x, cap, rfl, hc⟩
    · exact builds_none w
    · exact builds_some w x l.length cap l h rfl hc hb hm hl
end Go.Proofs.Ytdjiknakbldggaa

/-
  What the frames share: a slice of terms that came in, a slice of texts; their bulk.
-/
namespace Go.Proofs.Ytdjiknakbldggaa.frame
open Go.ChangeShapes Go.WideShapes Go.ChangeAt Go.RowKit
open Go.ChangeMaps (open_string shut_string)

theorem laidOut : laidOutB Try.prog = true := by kernel_rfl
theorem one_le {H : Type} (d : DataW H) : 1 ≤ Rows.uptoBulk d := by
  cases d with
  | lit l => cases l <;> simp [Rows.uptoBulk]
  | nil => simp [Rows.uptoBulk]
  | ptr d => simp [Rows.uptoBulk]
  | slice elems spare => simp [Rows.uptoBulk]
  | agg parts => simp [Rows.uptoBulk]
  | iface t d => simp [Rows.uptoBulk]
  | map entries => simp [Rows.uptoBulk]
  | held h => simp [Rows.uptoBulk]
theorem part_le {H : Type} {l : List (DataW H)} {x : DataW H} (h : x ∈ l) : Rows.uptoBulk x ≤ Rows.uptoBulkAll l := by
  induction l with
  | nil => cases h
  | cons y t ih =>
    simp only [Rows.uptoBulkAll]
    rcases List.mem_cons.1 h with rfl | h
    · omega
    · have := ih h; omega
theorem slice_elems {H : Type} (elems spare : List (DataW H)) : Rows.uptoBulkAll elems + 1 ≤ Rows.uptoBulk (.slice elems spare) := by
  simp only [Rows.uptoBulk]
  omega
theorem parts_le {H : Type} (l : List (DataW H)) : Rows.uptoBulkAll l + 1 ≤ Rows.uptoBulk (.agg l) := by
  simp only [Rows.uptoBulk]
  omega
theorem string_bulk {H : Type} (s : ByteArray) : Rows.uptoBulk (DataW.lit (H := H) (.string s.data.toList)) = s.size + 1 := by
  simp [Rows.uptoBulk]
section
variable {H : Type} {enc : TypeId × Value → H} {W : World}
theorem spot_of {x : Addr} {v : Value} (h : W.cell? (x.add 0) = some v) : ∃ b o, x = ⟨b, o, none⟩ ∧ b < W.heap.size ∧ ∀ j, x.add j = ⟨b, o + j, none⟩ := by
  obtain ⟨b, off, spot⟩ := x
  have hspot : spot = none := by
    have h1 := World.cell?_spot h
    simpa [Addr.add] using h1
  subst hspot
  have hadd : ∀ j, (⟨b, off, none⟩ : Addr).add j = ⟨b, off + j, none⟩ := fun j => by
    unfold Addr.add
    split <;> simp_all
  rw [hadd] at h
  exact ⟨b, off, rfl, World.block_lt_of_cell? W _ h, hadd⟩
set_option maxRecDepth 100000 in
theorem ents_of {a : Option Addr} {len cap : Nat} {d : DataW H} {p : List MemPlace} (h : DataW.Trod enc Try.prog W 0 (fun _ => true) true 22 (.slice a len cap) d p) :
    ∃ l : List Fs.En, EnS W (.slice a len cap) l ∧ EnX W (.slice a len cap) l ∧ (∀ e ∈ l, e.2 ≤ 9223372036854775807) ∧ ∀ e ∈ l, e.1.length ≤ Rows.uptoBulk d := by
  obtain ⟨fuel, hf⟩ := h
  have ce : Try.prog.cellsOf 26 = 2 := by kernel_rfl
  have c3 : Try.prog.cellsOf 3 = 1 := by kernel_rfl
  have c9 : Try.prog.cellsOf 9 = 1 := by kernel_rfl
  rcases Go.Deep.open_slice_pairs Try.underlying22 Try.underlying26 ce rfl rfl c9 c3 hf with ⟨hcs, hx⟩ | ⟨x, l, c, m, n, V0, V1, D0, D1, P0, P1, hcs, _, hl, hm, hmm, hx, hall⟩
  · simp [Value.cells] at hcs
    obtain ⟨rfl, rfl, rfl⟩ := hcs
    exact ⟨[], ⟨none, 0, rfl, Nat.le_refl _, by omega, fun h => by simp at h⟩, .inl ⟨rfl, rfl⟩, fun e q => absurd q List.not_mem_nil, fun e q => absurd q List.not_mem_nil⟩
  · simp [Value.cells] at hcs
    obtain ⟨rfl, rfl, rfl⟩ := hcs
    simp only [if_true] at hmm
    subst hmm
    have hd : d = .slice ((List.range len).map fun i => .agg [D0 i, D1 i]) ((List.range (m - len)).map fun j => .agg [D0 (len + j), D1 (len + j)]) := congrArg Prod.fst hx
    have each : ∀ i, i < len → ∃ q : Fs.En, (W.cell? (x.add (i * 2)) = some (.string (bs q.1)) ∧ W.cell? (x.add (i * 2 + 1)) = some (.int .i64 q.2)) ∧ q.2 ≤ 9223372036854775807 ∧ q.1.length ≤ Rows.uptoBulk d := by
      intro i hi
      obtain ⟨h0, h1, t0, t1⟩ := hall i (by omega)
      obtain ⟨s, f0, x0, _⟩ := DataW.trod_string Try.underlying9 t0
      obtain ⟨z, f1, x1, wf⟩ := DataW.trod_int Try.underlying3 t1
      injection f0 with f0 _
      injection f1 with f1 _
      rw [f0] at h0
      rw [f1] at h1
      refine ⟨(s.data.toList, z), ⟨by rw [bs_of]; exact h0, h1⟩, ?_, ?_⟩
      · have hw : IntKind.i64.min ≤ z ∧ z ≤ IntKind.i64.max := by simpa [Lit.wf] using wf
        exact hw.2
      · have hD : D0 i = .lit (.string s.data.toList) := congrArg Prod.fst x0
        have hmem : (DataW.agg [D0 i, D1 i]) ∈ (List.range len).map fun i => DataW.agg [D0 i, D1 i] := List.mem_map.2 ⟨i, List.mem_range.2 hi, rfl⟩
        have q1 := part_le hmem
        have q2 := slice_elems ((List.range len).map fun i => DataW.agg [D0 i, D1 i]) ((List.range (m - len)).map fun j => DataW.agg [D0 (len + j), D1 (len + j)])
        have q3 := parts_le [D0 i, D1 i]
        have q4 : Rows.uptoBulk (D0 i) ≤ Rows.uptoBulkAll [D0 i, D1 i] := part_le (List.mem_cons_self ..)
        rw [hD, string_bulk] at q4
        rw [hD] at q3
        have q5 : s.data.toList.length = s.size := Array.length_toList
        rw [hd]
        rw [hD] at q1
        show s.data.toList.length ≤ _
        omega
    obtain ⟨q, hq⟩ := Go.Deep.choose_lt (p := fun i (q : Fs.En) => (W.cell? (x.add (i * 2)) = some (.string (bs q.1)) ∧ W.cell? (x.add (i * 2 + 1)) = some (.int .i64 q.2)) ∧ q.2 ≤ 9223372036854775807 ∧ q.1.length ≤ Rows.uptoBulk d) each
    have hlq : ((List.range len).map q).length = len := by simp
    have hmem : ∀ e ∈ (List.range len).map q, ∃ i, i < len ∧ e = q i := fun e he => by
      obtain ⟨i, hi, rfl⟩ := List.mem_map.1 he
      exact ⟨i, List.mem_range.1 hi, rfl⟩
    have hsp : 0 < len → ∃ b o, x = ⟨b, o, none⟩ ∧ b < W.heap.size ∧ ∀ j, x.add j = ⟨b, o + j, none⟩ := fun h0 => spot_of (by simpa using (hq 0 h0).1.1)
    have hen : EnS W (.slice (some x) len m) ((List.range len).map q) := by
      refine ⟨some x, m, by rw [hlq], by rw [hlq]; exact hl, by unfold maxLen at hm; omega, fun h0 => ?_⟩
      rw [hlq] at h0
      obtain ⟨b, o, rfl, hb, hadd⟩ := hsp h0
      refine ⟨b, o, rfl, hb, fun i hi => ?_⟩
      have hi' : i < len := by rw [hlq] at hi; exact hi
      obtain ⟨⟨t0, t1⟩, _⟩ := hq i hi'
      rw [hadd] at t0 t1
      rw [List.getElem_map, List.getElem_range]
      exact ⟨t0, t1⟩
    refine ⟨(List.range len).map q, hen, .inr ⟨x, m, by rw [hlq], fun j u hj => ?_⟩, fun e he => ?_, fun e he => ?_⟩
    · have hj2 : j < (entV ((List.range len).map q)).length := (List.getElem?_eq_some_iff.1 hj).1
      rw [entV_length, hlq] at hj2
      obtain ⟨b, o, rfl, hb, hadd⟩ := hsp (by omega)
      obtain ⟨a', c', e1, _, _, e4⟩ := hen
      obtain ⟨g, o', e5, e6, e7⟩ := e4 (by rw [hlq]; omega)
      rw [e5] at e1
      injection e1 with e8 _ _
      injection e8 with e8
      injection e8 with e9 e10 _
      subst e9 e10
      exact ⟨ent_news e7 j u hj, by rw [hadd]; exact hb⟩
    · obtain ⟨i, hi, rfl⟩ := hmem e he
      exact (hq i hi).2.1
    · obtain ⟨i, hi, rfl⟩ := hmem e he
      exact (hq i hi).2.2
/-- A slice of texts that came in. -/
def TxS (w : World) (v : Value) (l : List (List UInt8)) : Prop :=
  ∃ a cap, v = .slice a l.length cap ∧ l.length ≤ 9223372036854775807 ∧ (0 < l.length → ∃ g o, a = some ⟨g, o, none⟩ ∧ g < w.heap.size ∧ ∀ i (_ : i < l.length), w.cell? ⟨g, o + i, none⟩ = some (.string (bs l[i])))
set_option maxRecDepth 100000 in
theorem texts_of {a : Option Addr} {len cap : Nat} {d : DataW H} {p : List MemPlace} (h : DataW.Trod enc Try.prog W 0 (fun _ => true) true 40 (.slice a len cap) d p) : ∃ l : List (List UInt8), TxS W (.slice a len cap) l ∧ (∀ s ∈ l, s.length ≤ Rows.uptoBulk d) ∧ l.length ≤ Rows.uptoBulk d := by
  obtain ⟨fuel, hf⟩ := h
  rcases open_strings Try.underlying40 Try.underlying9 (by kernel_rfl) hf with ⟨hcs, hx⟩ | ⟨x, l, c, ss, hcs, _, hl, hm, hz, hx, hcell, hws⟩
  · simp [Value.cells] at hcs
    obtain ⟨rfl, rfl, rfl⟩ := hcs
    exact ⟨[], ⟨none, 0, rfl, Nat.zero_le _, fun h => by simp at h⟩, fun e q => absurd q List.not_mem_nil, Nat.zero_le _⟩
  · simp [Value.cells] at hcs
    obtain ⟨rfl, rfl, rfl⟩ := hcs
    simp only [if_true] at hz
    have hd : d = .slice (strs (ss.take len)) (strs (ss.drop len)) := congrArg Prod.fst hx
    have h2 := slice_elems (strs (H := H) (ss.take len)) (strs (H := H) (ss.drop len))
    rw [← hd] at h2
    have hzt : (ss.take len).length = len := by rw [List.length_take]; omega
    have hall : ∀ l : List (DataW H), l.length ≤ Rows.uptoBulkAll l := by
      intro l
      induction l with
      | nil => exact Nat.zero_le _
      | cons y t ih =>
        simp only [Rows.uptoBulkAll, List.length_cons]
        have := one_le y
        omega
    refine ⟨(ss.take len).map (·.data.toList), ⟨some x, cap, by rw [List.length_map, hzt], by rw [List.length_map, hzt]; unfold maxLen at hm; omega, fun h0 => ?_⟩, fun s hs => ?_, ?_⟩
    · rw [List.length_map, hzt] at h0
      have hc0 := hcell 0 (by omega)
      obtain ⟨b, o, rfl, hb, hadd⟩ := spot_of hc0
      refine ⟨b, o, rfl, hb, fun i hi => ?_⟩
      rw [List.length_map, hzt] at hi
      have hi' : i < ss.length := by omega
      have := hcell i hi'
      rw [hadd] at this
      rw [this, List.getElem_map, List.getElem_take, bs_of]
      simp [List.getD, hi']
    · obtain ⟨t, ht, rfl⟩ := List.mem_map.1 hs
      have hmem : (DataW.lit (H := H) (.string t.data.toList)) ∈ strs (H := H) (ss.take len) := by
        unfold strs
        exact List.mem_map.2 ⟨_, ht, rfl⟩
      have h1 := part_le hmem
      rw [string_bulk] at h1
      have q5 : t.data.toList.length = t.size := Array.length_toList
      omega
    · rw [List.length_map, hzt]
      have := hall (strs (H := H) (ss.take len))
      have e : (strs (H := H) (ss.take len)).length = len := by unfold strs; rw [List.length_map, hzt]
      omega
end
end Go.Proofs.Ytdjiknakbldggaa.frame

/-
  The document's Get.
-/
namespace Go.Proofs.Ytdjiknakbldggaa
open Go.RowKit Go.Maps

namespace Fs
theorem lk_first {s : List UInt8} : ∀ {l : List En} {k : Nat} (hk : k < l.length), (∀ i (_ : i < l.length), i < k → l[i].1 ≠ s) → l[k].1 = s → lk l s = some l[k].2 := by
  intro l
  induction l with
  | nil => intro k hk; exact absurd hk (Nat.not_lt_zero _)
  | cons e l ih =>
    intro k hk h1 h2
    unfold lk
    cases k with
    | zero =>
      have h3 : e.1 = s := h2
      rw [List.find?_cons_of_pos (by simpa using h3)]
      rfl
    | succ k =>
      have h3 : e.1 ≠ s := h1 0 (by simp) (by omega)
      rw [List.find?_cons_of_neg (by simpa using h3)]
      exact ih (k := k) (by simpa using hk) (fun i hi q => h1 (i + 1) (by simpa using hi) (by omega)) h2
theorem lk_never {s : List UInt8} {l : List En} (h : ∀ i (_ : i < l.length), l[i].1 ≠ s) : lk l s = none := by
  unfold lk
  rw [List.find?_eq_none.2]
  · rfl
  · intro x hx
    obtain ⟨i, hi, rfl⟩ := List.mem_iff_getElem.1 hx
    simpa using h i hi
end Fs
set_option maxRecDepth 100000 in
set_option maxHeartbeats 4000000 in
theorem getR_any (w : World) (v : Value) (l : List Fs.En) (s : List UInt8) (h : EnS w v l) : Calls Try.prog 19 #[v, .string (bs s)] w (GetPost w (Fs.lk l s)) := by
  obtain ⟨a, cap, rfl, hc, hcap, hcell⟩ := h
  obtain ⟨n, hn⟩ : ∃ n, n = l.length := ⟨_, rfl⟩
  have HN := Lib.hid hn
  have HC : Hid (∀ wx, Below w.heap.size w wx → 0 < l.length → ∃ g o, a = some ⟨g, o, none⟩ ∧ EnC wx g o l) := fun wx hb h0 => by
    obtain ⟨g, o, h1, h2, h3⟩ := hcell h0
    exact ⟨g, o, h1, h3.below hb h2⟩
  obtain ⟨R, hR⟩ : ∃ R, R = Fs.lk l s := ⟨_, rfl⟩
  rw [← hn] at hc ⊢
  rw [← hR]
  have HR := Lib.hid hR
  have HEQ : Hid (∀ i (_ : i < l.length), ((bs l[i].1).toList == (bs s).toList) = decide (l[i].1 = s)) := fun i hi => by
    rw [bs_list, bs_list]
    by_cases q : l[i].1 = s
    · rw [decide_eq_true q, q]; simp
    · rw [decide_eq_false q]; simpa using q
  obtain ⟨S, hS⟩ : ∃ S, S = bs s := ⟨_, rfl⟩
  rw [← hS] at HEQ ⊢
  clear hn hcell hR hS
  go_enter Try.func19, Try.ntmps19
  go_wp2_with fail
  go_loopg [6] n (fun gg s6 wx => ∃ k : Nat, k ≤ n ∧ gg = n - k ∧ s6 = .int .i64 (k : Int) ∧ Hid (∀ i (_ : i < l.length), i < k → l[i].1 ≠ s) ∧ Hid (Below w.heap.size w wx))
  case atStart => exact ⟨0, Nat.zero_le _, rfl, rfl, fun i _ q => absurd q (Nat.not_lt_zero _), Below.refl _ _⟩
  case round =>
    obtain ⟨k, hk, rfl, rfl, hP, hB⟩ := hrel
    by_cases hkn : k < n
    · have i1 : (k : Int) < (n : Int) := by omega
      have kl : k < l.length := by rw [← HN.out]; exact hkn
      obtain ⟨g, o, rfl, hce⟩ := HC.out wr hB.out (by omega)
      obtain ⟨c1, c2⟩ := hce k kl
      have heq := HEQ.out k kl
      have hfirst := fun q => Fs.lk_first (s := s) kl hP.out q
      have hnext : l[k].1 ≠ s → ∀ i (_ : i < l.length), i < k + 1 → l[i].1 ≠ s := fun q i hi hik => by
        rcases Nat.lt_or_ge i k with q1 | q1
        · exact hP.out i hi q1
        · obtain rfl : i = k := by omega
          exact q
      by_cases hq : l[k].1 = s
      · rw [decide_eq_true hq] at heq
        have hR2 := hfirst hq
        rw [← HR.out] at hR2
        have HR2 := Lib.hid hR2
        clear hfirst hnext hce hR2 hP hq
        generalize bs l[k].1 = T1 at *
        generalize l[k].2 = z1 at *
        go_wp2_with fail
        try rw [Exit.noGoto_ret]
        go_ret2
        exact ⟨by rw [HR2.out]; rfl, hB.out⟩
      · rw [decide_eq_false hq] at heq
        have HNX := Lib.hid (hnext hq)
        clear hfirst hnext hce hP hq
        generalize bs l[k].1 = T1 at *
        generalize l[k].2 = z1 at *
        go_wp2_with fail
        go_roundg (n - (k + 1))
        case rel => exact ⟨k + 1, by omega, rfl, by go_num, HNX, hB⟩
        case measure => omega
    · obtain rfl : k = n := by omega
      have i1 : ¬ (k : Int) < (k : Int) := by omega
      have hR2 : R = none := by
        rw [HR.out]
        exact Fs.lk_never fun i hi => hP.out i hi (by have := HN.out; omega)
      have HR2 := Lib.hid hR2
      clear hR2 hP
      go_wp2_with fail
      try rw [Exit.noGoto_ret]
      go_ret2
      exact ⟨by rw [HR2.out]; rfl, hB.out⟩
end Go.Proofs.Ytdjiknakbldggaa
