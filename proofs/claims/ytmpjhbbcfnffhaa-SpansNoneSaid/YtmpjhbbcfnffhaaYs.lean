/-
  What the frame wants: slices of loose states that came in, each list within reach.
-/
import Derived.Test.YtmpjhbbcfnffhaaZm
import Derived.Test.YtmpjhbbcfnffhaaRows
import Derived.ProofKit
import Derived.OpenShut
import Derived.ShutString
import Derived.ChangeOld
import Derived.SizedLaws
import Derived.JoinedCond
import Derived.SliceStrings
import Derived.Deep.Strs
namespace Go.Proofs.Ytmpjhbbcfnffhaa.frameY
open Go.ChangeShapes Go.WideShapes Go.ChangeAt Go.RowKit

instance : Inhabited Au.Arc := ⟨⟨0, 0, 0⟩⟩
instance : Inhabited Au.Lo := ⟨⟨false, [], []⟩⟩
theorem laidOut : laidOutB Try.prog = true := by kernel_rfl
theorem weights_all {H : Type} {P : Program} {e : TypeId} {d : DataW H} : ∀ {L : List (DataW H)}, d ∈ L → ∀ n ∈ d.weights P e, n ∈ DataW.weightsAll P e L
  | x :: r, h, n, hn => by
    show n ∈ x.weights P e ++ DataW.weightsAll P e r
    rcases List.mem_cons.1 h with rfl | h
    · exact List.mem_append_left _ hn
    · exact List.mem_append_right _ (weights_all h n hn)
section
variable {H : Type} {enc : TypeId × Value → H} {W : World}
theorem addr_of {x : Addr} {i : Nat} {v : Value} (hi : i = 0) (h : W.cell? (x.add i) = some v) : ∃ b o, x = ⟨b, o, none⟩ ∧ b < W.heap.size ∧ ∀ j, x.add j = ⟨b, o + j, none⟩ := by
  obtain ⟨b, off, spot⟩ := x
  have hspot : spot = none := by
    have h1 := World.cell?_spot h
    subst hi
    simpa [Addr.add] using h1
  subst hspot
  have hadd : ∀ j, (⟨b, off, none⟩ : Addr).add j = ⟨b, off + j, none⟩ := fun j => by
    unfold Addr.add
    split <;> simp_all
  rw [hadd] at h
  exact ⟨b, off, rfl, World.block_lt_of_cell? W _ h, hadd⟩
/-- A list of numbers in memory. -/
theorem nums_cs {fuel : Nat} {cs : List Value} {x : DataW H × List MemPlace} (h : DataW.trod enc Try.prog W 0 (fun _ => true) true fuel 38 cs = some x) : ∃ v l, cs = [v] ∧ NumS (fun _ => True) W v l ∧ (l.length = 0 ∨ ∃ n ∈ x.1.weights Try.prog 38, l.length * 8 ≤ n) := by
  rcases open_ints Try.underlying38 Try.underlying3 (by kernel_rfl) h with ⟨hcs, _⟩ | ⟨y, l, c, zs, hcs, _, hl, hm, hz, hx, hcell, _⟩
  · exact ⟨_, [], hcs, ⟨none, 0, rfl, Nat.le_refl _, by omega, fun h => by simp at h⟩, .inl rfl⟩
  · simp only [if_true] at hz
    have hzt : (zs.take l).length = l := by rw [List.length_take]; omega
    refine ⟨_, zs.take l, hcs, ⟨some y, c, by rw [hzt], by omega, by unfold maxLen at hm; omega, fun h0 => ?_⟩, .inr ⟨(l + (zs.length - l)) * 8, ?_, by rw [hzt]; omega⟩⟩
    · obtain ⟨b, o, rfl, hb, hadd⟩ := addr_of rfl (hcell 0 (by omega))
      refine ⟨b, o, rfl, hb, trivial, fun j hj => ?_⟩
      have hj' : j < zs.length := by omega
      have := hcell j hj'
      rw [hadd] at this
      rw [this, List.getElem_take]
      simp [List.getD, List.getElem?_eq_getElem hj']
    · have hd : x.1 = .slice (lits .i64 (zs.take l)) (lits .i64 (zs.drop l)) := by rw [hx]
      rw [hd]
      have hb8 : Try.prog.bytesOf 3 = 8 := by kernel_rfl
      simp only [DataW.weights, Try.underlying38, hb8]
      refine List.mem_cons.2 (.inl ?_)
      simp only [lits, List.length_map, List.length_take, List.length_drop]
      congr 1
      omega
set_option maxRecDepth 100000 in
/-- A list of arcs in memory. -/
theorem arcs_cs {fuel : Nat} {cs : List Value} {x : DataW H × List MemPlace} (h : DataW.trod enc Try.prog W 0 (fun _ => true) true fuel 37 cs = some x) : ∃ v l, cs = [v] ∧ ArcS (fun _ => True) W v l ∧ (l.length = 0 ∨ ∃ n ∈ x.1.weights Try.prog 37, l.length * 24 ≤ n) := by
  rcases Go.Deep.open_slice Try.underlying37 h with ⟨hcs, hx⟩ | ⟨a, len, c, m, n, D, Pl, hcs, _, hl, hm, hmm, hx, hel⟩
  · exact ⟨_, [], hcs, ⟨none, 0, rfl, Nat.le_refl _, by omega, fun h => by simp at h⟩, .inl rfl⟩
  · simp only [if_true] at hmm
    subst hmm
    have hc : Try.prog.cellsOf 42 = 3 := by kernel_rfl
    have c3 : Try.prog.cellsOf 3 = 1 := by kernel_rfl
    simp only [hc] at hel
    have each : ∀ i, i < len → ∃ q : Au.Arc, W.cell? (a.add (i * 3)) = some (.int .i64 q.lo) ∧ W.cell? (a.add (i * 3 + 1)) = some (.int .i64 q.hi) ∧ W.cell? (a.add (i * 3 + 2)) = some (.int .i64 q.to) := by
      intro i hi
      obtain ⟨cs', h1, h2⟩ := hel i (by omega)
      obtain ⟨_, hlen, hcell⟩ := World.cells?_some h1
      obtain ⟨y0, y1, y2, k, hxy, _, g0, g1, g2⟩ := Go.Deep.trod_struct3 Try.underlying42 h2
      match cs', hlen with
      | [v0, v1, v2], _ =>
        simp [c3] at g0 g1 g2
        have e0 := hcell 0 (by omega)
        have e1 := hcell 1 (by omega)
        have e2 := hcell 2 (by omega)
        rw [Go.Deep.add_add] at e0 e1 e2
        obtain ⟨n0, f0, _, _⟩ := DataW.trod_int Try.underlying3 g0
        obtain ⟨n1, f1, _, _⟩ := DataW.trod_int Try.underlying3 g1
        obtain ⟨n2, f2, _, _⟩ := DataW.trod_int Try.underlying3 g2
        simp at f0 f1 f2
        subst f0 f1 f2
        exact ⟨⟨n0, n1, n2⟩, by simpa using e0, by simpa using e1, by simpa using e2⟩
    have hd : x.1 = .slice ((List.range len).map D) ((List.range (m - len)).map fun j => D (len + j)) := by rw [hx]
    have hwt : (len + (m - len)) * 24 ∈ x.1.weights Try.prog 37 := by
      rw [hd]
      have hb8 : Try.prog.bytesOf 42 = 24 := by kernel_rfl
      simp only [DataW.weights, Try.underlying37, hb8]
      refine List.mem_cons.2 (.inl ?_)
      simp
    by_cases h0 : len = 0
    · subst h0
      exact ⟨_, [], hcs, ⟨some a, m, rfl, Nat.zero_le _, by unfold maxLen at hm; omega, fun h => by simp at h⟩, .inl rfl⟩
    · obtain ⟨q, hq⟩ := Go.Deep.choose_lt (p := fun i (q : Au.Arc) => W.cell? (a.add (i * 3)) = some (.int .i64 q.lo) ∧ W.cell? (a.add (i * 3 + 1)) = some (.int .i64 q.hi) ∧ W.cell? (a.add (i * 3 + 2)) = some (.int .i64 q.to)) each
      obtain ⟨b, o, rfl, hbl, hadd⟩ := addr_of rfl (hq 0 (by omega)).1
      have hlq : ((List.range len).map q).length = len := by simp
      refine ⟨_, (List.range len).map q, hcs, ⟨some ⟨b, o, none⟩, m, by rw [hlq], by rw [hlq]; exact hl, by unfold maxLen at hm; omega, fun _ => ⟨b, o, rfl, hbl, trivial, fun j hj => ?_⟩⟩, .inr ⟨_, hwt, by rw [hlq]; omega⟩⟩
      have hj' : j < len := by rw [hlq] at hj; exact hj
      obtain ⟨t0, t1, t2⟩ := hq j hj'
      rw [hadd] at t0 t1 t2
      rw [List.getElem_map, List.getElem_range]
      exact ⟨t0, t1, t2⟩
/-- One loose state, its cells. -/
theorem lo_cs {fuel : Nat} {cs : List Value} {x : DataW H × List MemPlace} (h : DataW.trod enc Try.prog W 0 (fun _ => true) true fuel 40 cs = some x) (hl : cs.length = 3) :
    ∃ (q : Au.Lo) (va vf : Value), cs = [.bool q.fin, va, vf] ∧ ArcS (fun _ => True) W va q.arcs ∧ NumS (fun _ => True) W vf q.free ∧ (q.arcs.length = 0 ∨ ∃ n ∈ x.1.weights Try.prog 40, q.arcs.length * 24 ≤ n) ∧ (q.free.length = 0 ∨ ∃ n ∈ x.1.weights Try.prog 40, q.free.length * 8 ≤ n) := by
  have c4 : Try.prog.cellsOf 4 = 1 := by kernel_rfl
  have c37 : Try.prog.cellsOf 37 = 1 := by kernel_rfl
  have c54 : Try.prog.cellsOf 38 = 1 := by kernel_rfl
  obtain ⟨y0, y1, y2, k, hxy, _, g0, g1, g2⟩ := Go.Deep.trod_struct3 Try.underlying40 h
  match cs, hl with
  | [v0, v1, v2], _ =>
    simp [c4, c37, c54] at g0 g1 g2
    obtain ⟨b, f0, _⟩ := DataW.trod_bool Try.underlying4 g0
    obtain ⟨v, l, f1, f2, f3⟩ := arcs_cs g1
    obtain ⟨u, r, f4, f5, f6⟩ := nums_cs g2
    simp at f0 f1 f4
    subst f0 f1 f4
    have hd : x.1 = .agg [y0.1, y1.1, y2.1] := congrArg Prod.fst hxy
    have hw : ∀ n, n ∈ y1.1.weights Try.prog 37 ∨ n ∈ y2.1.weights Try.prog 38 → n ∈ x.1.weights Try.prog 40 := fun n hn => by
      rw [hd]
      simp only [DataW.weights, Try.underlying40, DataW.weightsEach, List.map_cons, List.map_nil, List.append_nil, List.mem_append]
      rcases hn with hn | hn
      · exact .inr (.inl hn)
      · exact .inr (.inr hn)
    refine ⟨⟨b, l, r⟩, _, _, rfl, f2, f5, ?_, ?_⟩
    · rcases f3 with f3 | ⟨n, h1, h2⟩
      · exact .inl f3
      · exact .inr ⟨n, hw n (.inl h1), h2⟩
    · rcases f6 with f6 | ⟨n, h1, h2⟩
      · exact .inl f6
      · exact .inr ⟨n, hw n (.inr h1), h2⟩
set_option maxRecDepth 100000 in
/-- A list of loose states that came in; their lists are within reach. -/
theorem los_sized {a : Option Addr} {len cap j : Nat} {d : DataW H} {p : List MemPlace} {ts : List TypeId} {ds : List (DataW H)} (hsz : (DataW.weightsEach Try.prog ts ds).all (· ≤ reachBytes) = true) (h1 : ts[j]? = some 35) (h2 : ds[j]? = some d)
    (h : DataW.Trod enc Try.prog W 0 (fun _ => true) true 35 (.slice a len cap) d p) : ∃ l, LoS (fun _ => True) W (.slice a len cap) l ∧ ∀ s ∈ l, s.arcs.length * 24 ≤ 140737488355328 ∧ s.free.length * 8 ≤ 140737488355328 := by
  obtain ⟨fuel, hf⟩ := h
  rcases Go.Deep.open_slice Try.underlying35 hf with ⟨hcs, _⟩ | ⟨x, l, c, m, n, D, Pl, hcs, _, hl, hm, hmm, hx, hel⟩
  · simp [Value.cells] at hcs
    obtain ⟨rfl, rfl, rfl⟩ := hcs
    exact ⟨[], ⟨none, 0, rfl, Nat.le_refl _, by omega, fun h => by simp at h⟩, fun s hs => by cases hs⟩
  · simp [Value.cells] at hcs
    obtain ⟨rfl, rfl, rfl⟩ := hcs
    simp only [if_true] at hmm
    subst hmm
    have hc : Try.prog.cellsOf 40 = 3 := by kernel_rfl
    simp only [hc] at hel
    have hd : d = .slice ((List.range len).map D) ((List.range (m - len)).map fun j => D (len + j)) := congrArg Prod.fst hx
    have hwt : ∀ i, i < len → ∀ n ∈ (D i).weights Try.prog 40, n ≤ 140737488351232 := fun i hi n hn => by
      have hm1 : n ∈ d.weights Try.prog 35 := by
        rw [hd]
        simp only [DataW.weights, Try.underlying35]
        exact List.mem_cons_of_mem _ (List.mem_append_left _ (weights_all (List.mem_map.2 ⟨i, List.mem_range.2 hi, rfl⟩) n hn))
      have := List.all_eq_true.1 hsz _ (DataW.weights_mem_each h1 h2 _ hm1)
      simpa [reachBytes] using of_decide_eq_true this
    have each : ∀ i, i < len → ∃ q : Au.Lo, (W.cell? (x.add (i * 3)) = some (.bool q.fin) ∧ (∃ va, W.cell? (x.add (i * 3 + 1)) = some va ∧ ArcS (fun _ => True) W va q.arcs) ∧ (∃ vf, W.cell? (x.add (i * 3 + 2)) = some vf ∧ NumS (fun _ => True) W vf q.free)) ∧ q.arcs.length * 24 ≤ 140737488355328 ∧ q.free.length * 8 ≤ 140737488355328 := by
      intro i hi
      obtain ⟨cs', k1, k2⟩ := hel i (by omega)
      obtain ⟨_, hlen, hcell⟩ := World.cells?_some k1
      obtain ⟨q, va, vf, rfl, q1, q2, q3, q4⟩ := lo_cs k2 hlen
      have e0 := hcell 0 (by omega)
      have e1 := hcell 1 (by omega)
      have e2 := hcell 2 (by omega)
      rw [Go.Deep.add_add] at e0 e1 e2
      refine ⟨q, ⟨by simpa using e0, ⟨va, by simpa using e1, q1⟩, vf, by simpa using e2, q2⟩, ?_, ?_⟩
      · rcases q3 with q3 | ⟨n, n1, n2⟩
        · omega
        · have := hwt i hi n n1; omega
      · rcases q4 with q4 | ⟨n, n1, n2⟩
        · omega
        · have := hwt i hi n n1; omega
    by_cases h0 : len = 0
    · subst h0
      exact ⟨[], ⟨some x, m, rfl, Nat.zero_le _, by unfold maxLen at hm; omega, fun h => by simp at h⟩, fun s hs => by cases hs⟩
    · obtain ⟨q, hq⟩ := Go.Deep.choose_lt (p := fun i (q : Au.Lo) => (W.cell? (x.add (i * 3)) = some (.bool q.fin) ∧ (∃ va, W.cell? (x.add (i * 3 + 1)) = some va ∧ ArcS (fun _ => True) W va q.arcs) ∧ (∃ vf, W.cell? (x.add (i * 3 + 2)) = some vf ∧ NumS (fun _ => True) W vf q.free)) ∧ q.arcs.length * 24 ≤ 140737488355328 ∧ q.free.length * 8 ≤ 140737488355328) each
      obtain ⟨b, o, rfl, hbl, hadd⟩ := addr_of rfl (hq 0 (by omega)).1.1
      have hlq : ((List.range len).map q).length = len := by simp
      refine ⟨(List.range len).map q, ⟨some ⟨b, o, none⟩, m, by rw [hlq], by rw [hlq]; exact hl, by unfold maxLen at hm; omega, fun _ => ⟨b, o, rfl, hbl, trivial, fun j hj => ?_⟩⟩, fun s hs => ?_⟩
      · have hj' : j < len := by rw [hlq] at hj; exact hj
        obtain ⟨⟨t0, ⟨va, t1, t2⟩, vf, t3, t4⟩, _⟩ := hq j hj'
        rw [hadd] at t0 t1 t3
        rw [List.getElem_map, List.getElem_range]
        exact ⟨t0, ⟨va, t1, t2⟩, vf, t3, t4⟩
      · obtain ⟨i, hi, rfl⟩ := List.mem_map.1 hs
        exact (hq i (List.mem_range.1 hi)).2
end
end Go.Proofs.Ytmpjhbbcfnffhaa.frameY
