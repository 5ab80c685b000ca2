/-
  A list of postings that came in: where it lies, how long it is in all.
-/
import Derived.Test.YtokdjaljeckghaaPe
import Derived.Test.YtokdjaljeckghaaIntsF
import Derived.Deep.Strs
namespace Go.Proofs.Ytokdjaljeckghaa.frame
open Go.ChangeShapes Go.WideShapes Go.ChangeAt Go.RowKit
instance : Inhabited Pt.Po := ⟨⟨0, []⟩⟩
theorem all_sum {H : Type} (l : List (DataW H)) (f : DataW H → Nat) (h : ∀ x ∈ l, f x ≤ Rows.uptoBulk x) : (l.map f).sum ≤ Rows.uptoBulkAll l := by
  induction l with
  | nil => exact Nat.zero_le _
  | cons y t ih =>
    simp only [Rows.uptoBulkAll, List.map_cons, List.sum_cons]
    have h1 := h y (List.mem_cons_self ..)
    have h2 := ih fun x hx => h x (List.mem_cons_of_mem _ hx)
    omega
section
variable {H : Type} {enc : TypeId × Value → H} {W : World}
theorem addr_of {x : Addr} {i : Nat} {v : Value} (hi : i = 0) (h : W.cell? (x.add i) = some v) : ∃ b o, x = ⟨b, o, none⟩ ∧ b < W.heap.size ∧ ∀ j, x.add j = ⟨b, o + j, none⟩ := by
  obtain ⟨b, off, spot⟩ := x
  have hspot : spot = none := by
    have h1 := World.cell?_spot h
    subst hi
    simpa [Addr.add] using h1
  subst hspot
  have hadd : ∀ j, (⟨b, off, none⟩ : Addr).add j = ⟨b, off + j, none⟩ := fun j => by
    unfold Addr.add
    split <;> simp_all
  rw [hadd] at h
  exact ⟨b, off, rfl, World.block_lt_of_cell? W _ h, hadd⟩
/-- A list of numbers in memory. -/
theorem ints_cs {fuel : Nat} {cs : List Value} {x : DataW H × List MemPlace} (h : DataW.trod enc Try.prog W 0 (fun _ => true) true fuel 38 cs = some x) : ∃ v l, cs = [v] ∧ IntF (fun _ => True) W v l ∧ l.length ≤ Rows.uptoBulk x.1 := by
  rcases open_ints Try.underlying38 Try.underlying3 (by kernel_rfl) h with ⟨hcs, _⟩ | ⟨x', l, c, zs, hcs, _, hl, hm, hz, hx, hcell, _⟩
  · exact ⟨_, [], hcs, ⟨none, 0, rfl, Nat.le_refl _, by omega, fun h => by simp at h⟩, Nat.zero_le _⟩
  · simp only [if_true] at hz
    have hzt : (zs.take l).length = l := by rw [List.length_take]; omega
    have hd : x.1 = .slice (lits .i64 (zs.take l)) (lits .i64 (zs.drop l)) := congrArg Prod.fst hx
    refine ⟨_, zs.take l, hcs, ⟨some x', c, by rw [hzt], by omega, by unfold maxLen at hm; omega, fun h0 => ?_⟩, ?_⟩
    · obtain ⟨b, o, rfl, hb, hadd⟩ := addr_of rfl (hcell 0 (by omega))
      refine ⟨b, o, rfl, hb, trivial, fun j hj => ?_⟩
      have hj' : j < zs.length := by omega
      have := hcell j hj'
      rw [hadd] at this
      rw [this, List.getElem_take]
      simp [List.getD, List.getElem?_eq_getElem hj']
    · have h1 := length_le (lits (H := H) .i64 (zs.take l))
      have h2 := slice_elems (lits (H := H) .i64 (zs.take l)) (lits (H := H) .i64 (zs.drop l))
      have h3 : (lits (H := H) .i64 (zs.take l)).length = (zs.take l).length := by simp [lits]
      rw [hd]
      omega
set_option maxRecDepth 100000 in
theorem posts_of {a : Option Addr} {len cap : Nat} {d : DataW H} {p : List MemPlace} (h : DataW.Trod enc Try.prog W 0 (fun _ => true) true 22 (.slice a len cap) d p) : ∃ l, PoS (fun _ => True) W (.slice a len cap) l ∧ l.length + (l.map fun s => s.ats.length).sum ≤ Rows.uptoBulk d := by
  obtain ⟨fuel, hf⟩ := h
  rcases Go.Deep.open_slice Try.underlying22 hf with ⟨hcs, _⟩ | ⟨x, l, c, m, n, D, Pl, hcs, _, hl, hm, hmm, hx, hel⟩
  · simp [Value.cells] at hcs
    obtain ⟨rfl, rfl, rfl⟩ := hcs
    exact ⟨[], ⟨none, 0, rfl, Nat.le_refl _, by omega, fun h => by simp at h⟩, Nat.zero_le _⟩
  · simp [Value.cells] at hcs
    obtain ⟨rfl, rfl, rfl⟩ := hcs
    simp only [if_true] at hmm
    subst hmm
    have hc : Try.prog.cellsOf 40 = 2 := by kernel_rfl
    have c3 : Try.prog.cellsOf 3 = 1 := by kernel_rfl
    have c38 : Try.prog.cellsOf 38 = 1 := by kernel_rfl
    simp only [hc] at hel
    have hd : d = .slice ((List.range len).map D) ((List.range (m - len)).map fun j => D (len + j)) := congrArg Prod.fst hx
    have hb := slice_elems ((List.range len).map D) ((List.range (m - len)).map fun j => D (len + j))
    rw [← hd] at hb
    have each : ∀ i, i < len → ∃ q : Pt.Po, W.cell? (x.add (i * 2)) = some (.int .i64 q.doc) ∧ (∃ va, W.cell? (x.add (i * 2 + 1)) = some va ∧ IntF (fun _ => True) W va q.ats) ∧ q.ats.length + 1 ≤ Rows.uptoBulk (D i) := by
      intro i hi
      obtain ⟨cs', h1, h2⟩ := hel i (by omega)
      obtain ⟨_, hlen, hcell⟩ := World.cells?_some h1
      obtain ⟨y0, y1, k, hxy, _, g0, g1⟩ := trod_struct2 Try.underlying40 h2
      match cs', hlen with
      | [v0, v1], _ =>
        simp [c3, c38] at g0 g1
        have e0 := hcell 0 (by omega)
        have e1 := hcell 1 (by omega)
        rw [Go.Deep.add_add] at e0 e1
        obtain ⟨n0, f0, _, _⟩ := DataW.trod_int Try.underlying3 g0
        obtain ⟨v, l, f1, f2, f3⟩ := ints_cs g1
        simp at f0 f1
        subst f0 f1
        have hDi : D i = .agg [y0.1, y1.1] := congrArg Prod.fst hxy
        refine ⟨⟨n0, l⟩, by simpa using e0, ⟨_, by simpa using e1, f2⟩, ?_⟩
        rw [hDi]
        simp only [Rows.uptoBulk, Rows.uptoBulkAll]
        show l.length + 1 ≤ _
        have := one_le y0.1
        omega
    by_cases h0 : len = 0
    · subst h0
      exact ⟨[], ⟨some x, m, rfl, Nat.zero_le _, by unfold maxLen at hm; omega, fun h => by simp at h⟩, Nat.zero_le _⟩
    · obtain ⟨q, hq⟩ := Go.Deep.choose_lt (p := fun i (q : Pt.Po) => W.cell? (x.add (i * 2)) = some (.int .i64 q.doc) ∧ (∃ va, W.cell? (x.add (i * 2 + 1)) = some va ∧ IntF (fun _ => True) W va q.ats) ∧ q.ats.length + 1 ≤ Rows.uptoBulk (D i)) each
      obtain ⟨b, o, rfl, hbl, hadd⟩ := addr_of rfl (hq 0 (by omega)).1
      have hlq : ((List.range len).map q).length = len := by simp
      refine ⟨(List.range len).map q, ⟨some ⟨b, o, none⟩, m, by rw [hlq], by rw [hlq]; exact hl, by unfold maxLen at hm; omega, fun _ => ⟨b, o, rfl, hbl, trivial, fun j hj => ?_⟩⟩, ?_⟩
      · have hj' : j < len := by rw [hlq] at hj; exact hj
        obtain ⟨t0, ⟨va, t1, t2⟩, _⟩ := hq j hj'
        rw [hadd] at t0 t1
        rw [List.getElem_map, List.getElem_range]
        exact ⟨t0, va, t1, t2⟩
      · have hs : ((List.range len).map q).length + (((List.range len).map q).map fun s => s.ats.length).sum ≤ (((List.range len).map D).map Rows.uptoBulk).sum := by
          rw [List.map_map, List.map_map, List.length_map]
          have key : ∀ L : List Nat, (∀ i ∈ L, i < len) → L.length + (L.map ((fun s : Pt.Po => s.ats.length) ∘ q)).sum ≤ (L.map (Rows.uptoBulk ∘ D)).sum := by
            intro L
            induction L with
            | nil => intro _; exact Nat.le_refl _
            | cons y t ih =>
              intro hL
              simp only [List.map_cons, List.sum_cons, List.length_cons]
              have h1 := (hq y (hL y (List.mem_cons_self ..))).2.2
              have h2 := ih fun i hi => hL i (List.mem_cons_of_mem _ hi)
              show t.length + 1 + ((q y).ats.length + _) ≤ Rows.uptoBulk (D y) + _
              omega
          exact key _ fun i hi => List.mem_range.1 hi
        have h2 := all_sum ((List.range len).map D) Rows.uptoBulk fun _ _ => Nat.le_refl _
        omega
end
/-- The bounds in the form that the walks want. -/
theorem posts_bulk {l : List Pt.Po} {n : Nat} (h : l.length + (l.map fun s => s.ats.length).sum ≤ n) : l.length ≤ n ∧ (Pt.plcs l).length ≤ n ∧ ∀ p ∈ l, p.ats.length ≤ n := by
  have e : (Pt.plcs l).length = (l.map fun s => s.ats.length).sum := by
    unfold Pt.plcs
    rw [List.length_flatMap]
    congr 1
    exact List.map_congr_left fun p _ => dl_length _ _
  refine ⟨by omega, by omega, fun p hp => ?_⟩
  have : p.ats.length ≤ (l.map fun s => s.ats.length).sum := by
    clear h e
    induction l with
    | nil => cases hp
    | cons q r ih =>
      rw [List.map_cons, List.sum_cons]
      rcases List.mem_cons.1 hp with rfl | hp
      · omega
      · have := ih hp
        omega
  omega
end Go.Proofs.Ytokdjaljeckghaa.frame
