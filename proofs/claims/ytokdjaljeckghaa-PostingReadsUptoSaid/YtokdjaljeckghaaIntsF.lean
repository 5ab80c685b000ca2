/-
  What the frames share: a slice of numbers that came in, its bulk.
-/
import Derived.Test.YtokdjaljeckghaaInts
import Derived.Test.YtokdjaljeckghaaBpC
import Derived.Test.YtokdjaljeckghaaRows
import Derived.ProofKit
import Derived.OpenShut
import Derived.ShutString
import Derived.ChangeOld
import Derived.SizedLaws
import Derived.JoinedCond
namespace Go.Proofs.Ytokdjaljeckghaa.frame
open Go.ChangeShapes Go.WideShapes Go.ChangeAt Go.RowKit
open Go.ChangeMaps (open_string shut_string)

theorem own : ownKnob Try.prog.godebug = none := by kernel_rfl
theorem laidOut : laidOutB Try.prog = true := by kernel_rfl

theorem one_le {H : Type} (d : DataW H) : 1 ≤ Rows.uptoBulk d := by
  cases d with
  | lit l => cases l <;> simp [Rows.uptoBulk]
  | nil => simp [Rows.uptoBulk]
  | ptr d => simp [Rows.uptoBulk]
  | slice elems spare => simp [Rows.uptoBulk]
  | agg parts => simp [Rows.uptoBulk]
  | iface t d => simp [Rows.uptoBulk]
  | map entries => simp [Rows.uptoBulk]
  | held h => simp [Rows.uptoBulk]
theorem length_le {H : Type} (l : List (DataW H)) : l.length ≤ Rows.uptoBulkAll l := by
  induction l with
  | nil => simp [Rows.uptoBulkAll]
  | cons x r ih => have := one_le x; simp only [Rows.uptoBulkAll, List.length_cons]; omega
theorem slice_elems {H : Type} (elems spare : List (DataW H)) : Rows.uptoBulkAll elems + 1 ≤ Rows.uptoBulk (.slice elems spare) := by
  simp only [Rows.uptoBulk]
  omega
theorem string_bulk {H : Type} (s : ByteArray) : Rows.uptoBulk (DataW.lit (H := H) (.string s.data.toList)) = s.size + 1 := by
  simp [Rows.uptoBulk]
theorem bound {H : Type} {l : List (DataW H)} (hk : Rows.uptoSmall H l = true) : Rows.uptoBulkAll l ≤ 1048576 := of_decide_eq_true hk

/-- What a walk is told of a slice of numbers that came in. -/
structure InS (w : World) (v : Value) (zs : List Int) : Prop where
  ints : IntS w v zs
  wf : Wf zs
  nilOr : v = .slice none 0 0 ∨ ∃ x l c, v = .slice (some x) l c
  spot : ∀ x l c, v = .slice (some x) l c → 0 < l → ∃ b off, x = ⟨b, off, none⟩ ∧ b < w.heap.size
theorem ints_of {H : Type} {enc : TypeId × Value → H} {W : World} {t e : TypeId} {a : Option Addr} {len cap : Nat} {d : DataW H} {p : List MemPlace} (ht : Try.prog.underlying t = some (.slice e)) (he : Try.prog.underlying e = some (.int .i64)) (hc : Try.prog.cellsOf e = 1)
    (h : DataW.Trod enc Try.prog W 0 (fun _ => true) true t (.slice a len cap) d p) : ∃ zs, InS W (.slice a len cap) zs ∧ zs.length + 1 ≤ Rows.uptoBulk d := by
  obtain ⟨fuel, hf⟩ := h
  rcases open_ints ht he hc hf with ⟨hcs, hx⟩ | ⟨x, l, c, zs, hcs, _, hl, hm, hz, hx, hcell, hwz⟩
  · simp [Value.cells] at hcs
    obtain ⟨rfl, rfl, rfl⟩ := hcs
    exact ⟨[], ⟨⟨none, 0, rfl, Nat.le_refl _, by omega, fun h => by simp at h⟩, fun z hz => absurd hz List.not_mem_nil, .inl rfl, fun x l c h => by simp at h⟩, by have := one_le d; simp; omega⟩
  · simp [Value.cells] at hcs
    obtain ⟨rfl, rfl, rfl⟩ := hcs
    simp only [if_true] at hz
    have hd : d = .slice (lits .i64 (zs.take len)) (lits .i64 (zs.drop len)) := congrArg Prod.fst hx
    have hle : len ≤ (lits (H := H) .i64 (zs.take len)).length := by simp [lits]; omega
    have hzt : (zs.take len).length = len := by rw [List.length_take]; omega
    have hspot : 0 < len → ∃ b off, x = ⟨b, off, none⟩ ∧ b < W.heap.size := by
      intro h0
      obtain ⟨b, off, spot⟩ := x
      have hc0 := hcell 0 (by omega)
      have hspot : spot = none := by simpa [Addr.add] using World.cell?_spot hc0
      subst hspot
      exact ⟨b, off, rfl, World.block_lt_of_cell? W _ hc0⟩
    refine ⟨zs.take len, ⟨⟨some x, cap, by rw [hzt], by omega, by unfold maxLen at hm; omega, fun h0 => ?_⟩, fun z hz => ?_, .inr ⟨_, _, _, rfl⟩, fun x' l c h h0 => ?_⟩, ?_⟩
    · obtain ⟨b, off, rfl, hb⟩ := hspot (by omega)
      refine ⟨b, off, rfl, hb, fun j hj => ?_⟩
      have hj' : j < zs.length := by omega
      have := hcell j hj'
      rw [show (⟨b, off, none⟩ : Addr).add j = ⟨b, off + j, none⟩ from by unfold Addr.add; split <;> simp_all] at this
      rw [this, List.getElem_take]
      simp [List.getD, List.getElem?_eq_getElem hj']
    · exact bounds_i64 (hwz z (List.mem_of_mem_take hz))
    · simp only [Value.slice.injEq, Option.some.injEq] at h
      obtain ⟨rfl, rfl, rfl⟩ := h
      exact hspot h0
    · have h1 := length_le (lits (H := H) .i64 (zs.take len))
      have h2 := slice_elems (lits (H := H) .i64 (zs.take len)) (lits (H := H) .i64 (zs.drop len))
      rw [hd, hzt]
      omega
end Go.Proofs.Ytokdjaljeckghaa.frame
