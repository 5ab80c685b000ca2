/-
  What the frames share: a list of numbers that came in, a script of steps that came in.
-/
import Derived.Test.YtoppgecajibelaaSm
import Derived.Test.YtoppgecajibelaaRows
import Derived.ProofKit
import Derived.OpenShut
import Derived.ShutString
import Derived.ChangeOld
import Derived.SizedLaws
import Derived.Deep.Strs
namespace Go.Proofs.Ytoppgecajibelaa.frame
open Go.ChangeShapes Go.WideShapes Go.ChangeAt Go.RowKit
open Go.ChangeMaps (open_string shut_string)
theorem laidOut : laidOutB Try.prog = true := by kernel_rfl
section
variable {H : Type} {enc : TypeId × Value → H} {W : World}
theorem addr_of {x : Addr} {i : Nat} {v : Value} (hi : i = 0) (h : W.cell? (x.add i) = some v) : ∃ b o, x = ⟨b, o, none⟩ ∧ b < W.heap.size ∧ ∀ j, x.add j = ⟨b, o + j, none⟩ := by
  obtain ⟨b, off, spot⟩ := x
  have hspot : spot = none := by
    have h1 := World.cell?_spot h
    subst hi
    simpa [Addr.add] using h1
  subst hspot
  have hadd : ∀ j, (⟨b, off, none⟩ : Addr).add j = ⟨b, off + j, none⟩ := fun j => by
    unfold Addr.add
    split <;> simp_all
  rw [hadd] at h
  exact ⟨b, off, rfl, World.block_lt_of_cell? W _ h, hadd⟩
/-- A list of numbers. -/
theorem numbers_of {a : Option Addr} {len cap : Nat} {d : DataW H} {p : List MemPlace} (h : DataW.Trod enc Try.prog W 0 (fun _ => true) true 38 (.slice a len cap) d p) : ∃ zs, IntS W (.slice a len cap) zs := by
  obtain ⟨fuel, hf⟩ := h
  rcases open_ints Try.underlying38 Try.underlying3 (by kernel_rfl) hf with ⟨hcs, _⟩ | ⟨x, l, c, zs, hcs, _, hl, hm, hz, hx, hcell, _⟩
  · simp [Value.cells] at hcs
    obtain ⟨rfl, rfl, rfl⟩ := hcs
    exact ⟨[], none, 0, rfl, Nat.le_refl _, by omega, fun h => by simp at h⟩
  · simp [Value.cells] at hcs
    obtain ⟨rfl, rfl, rfl⟩ := hcs
    simp only [if_true] at hz
    have hzt : (zs.take len).length = len := by rw [List.length_take]; omega
    refine ⟨zs.take len, some x, cap, by rw [hzt], by omega, by unfold maxLen at hm; omega, fun h0 => ?_⟩
    obtain ⟨b, o, rfl, hb, hadd⟩ := addr_of rfl (hcell 0 (by omega))
    refine ⟨b, o, rfl, hb, fun j hj => ?_⟩
    have hj' : j < zs.length := by omega
    have := hcell j hj'
    rw [hadd] at this
    rw [this, List.getElem_take]
    simp [List.getD, List.getElem?_eq_getElem hj']
set_option maxRecDepth 100000 in
/-- A script of steps. -/
theorem steps_of {a : Option Addr} {len cap : Nat} {d : DataW H} {p : List MemPlace} (h : DataW.Trod enc Try.prog W 0 (fun _ => true) true 22 (.slice a len cap) d p) : ∃ l, StepS W (.slice a len cap) l := by
  obtain ⟨fuel, hf⟩ := h
  rcases Go.Deep.open_slice Try.underlying22 hf with ⟨hcs, _⟩ | ⟨x, l, c, m, n, D, Pl, hcs, _, hl, hm, hmm, hx, hel⟩
  · simp [Value.cells] at hcs
    obtain ⟨rfl, rfl, rfl⟩ := hcs
    exact ⟨[], none, 0, rfl, Nat.le_refl _, by omega, fun h => by simp at h⟩
  · simp [Value.cells] at hcs
    obtain ⟨rfl, rfl, rfl⟩ := hcs
    simp only [if_true] at hmm
    subst hmm
    have hc : Try.prog.cellsOf 34 = 2 := by kernel_rfl
    have c3 : Try.prog.cellsOf 3 = 1 := by kernel_rfl
    simp only [hc] at hel
    have each : ∀ i, i < len → ∃ q : Int × Int, W.cell? (x.add (i * 2)) = some (.int .i64 q.1) ∧ W.cell? (x.add (i * 2 + 1)) = some (.int .i64 q.2) := by
      intro i hi
      obtain ⟨cs', h1, h2⟩ := hel i (by omega)
      obtain ⟨_, hlen, hcell⟩ := World.cells?_some h1
      obtain ⟨y0, y1, k, hxy, _, g0, g1⟩ := trod_struct2 Try.underlying34 h2
      match cs', hlen with
      | [v0, v1], _ =>
        simp [c3] at g0 g1
        have e0 := hcell 0 (by omega)
        have e1 := hcell 1 (by omega)
        rw [Go.Deep.add_add] at e0 e1
        obtain ⟨n0, f0, _, _⟩ := DataW.trod_int Try.underlying3 g0
        obtain ⟨n1, f1, _, _⟩ := DataW.trod_int Try.underlying3 g1
        simp at f0 f1
        subst f0 f1
        exact ⟨(n0, n1), by simpa using e0, by simpa using e1⟩
    by_cases h0 : len = 0
    · subst h0
      exact ⟨[], some x, m, rfl, Nat.zero_le _, by unfold maxLen at hm; omega, fun h => by simp at h⟩
    · obtain ⟨q, hq⟩ := Go.Deep.choose_lt (p := fun i (q : Int × Int) => W.cell? (x.add (i * 2)) = some (.int .i64 q.1) ∧ W.cell? (x.add (i * 2 + 1)) = some (.int .i64 q.2)) each
      obtain ⟨b, o, rfl, hbl, hadd⟩ := addr_of rfl (hq 0 (by omega)).1
      have hlq : ((List.range len).map q).length = len := by simp
      refine ⟨(List.range len).map q, some ⟨b, o, none⟩, m, by rw [hlq], by rw [hlq]; exact hl, by unfold maxLen at hm; omega, fun _ => ⟨b, o, rfl, hbl, fun j hj => ?_⟩⟩
      have hj' : j < len := by rw [hlq] at hj; exact hj
      obtain ⟨t0, t1⟩ := hq j hj'
      rw [hadd] at t0 t1
      rw [List.getElem_map, List.getElem_range]
      exact ⟨t0, t1⟩
end
end Go.Proofs.Ytoppgecajibelaa.frame
