/-
  What the cards' frames share: arguments opened, their bulk, the witness's world, the library's listed tables.
-/
import Derived.Test.YtedloedfbegbkaaDoorUd
import Derived.Test.YtedloedfbegbkaaDoorCards
import Derived.Test.YtedloedfbegbkaaDoorTie
import Derived.ProofKit
import Derived.OpenShut
import Derived.ShutString
import Derived.ChangeOld
import Derived.SizedLaws
import Derived.Deep.DeepHandedRow
import Derived.Deep.DeepWitnessRowRef
import Derived.Lib.LaidIn
import Derived.Lib.LaidU8T
import Derived.PinnedBridge
namespace Go.Proofs.YtedloedfbegbkaaDoor.frame
open Go.ChangeShapes Go.WideShapes Go.ChangeAt Go.RowKit Go.Lib
open Go.ChangeMaps (open_string shut_string)

theorem own : ownKnob Tryd.prog.godebug = none := by kernel_rfl
theorem laidOut : laidOutB Tryd.prog = true := by kernel_rfl

theorem one_le {H : Type} (d : DataW H) : 1 ≤ Rows.uptoBulk d := by
  cases d with
  | lit l => cases l <;> simp [Rows.uptoBulk]
  | nil => simp [Rows.uptoBulk]
  | ptr d => simp [Rows.uptoBulk]
  | slice elems spare => simp [Rows.uptoBulk]
  | agg parts => simp [Rows.uptoBulk]
  | iface t d => simp [Rows.uptoBulk]
  | map entries => simp [Rows.uptoBulk]
  | held h => simp [Rows.uptoBulk]
theorem length_le {H : Type} (l : List (DataW H)) : l.length ≤ Rows.uptoBulkAll l := by
  induction l with
  | nil => simp [Rows.uptoBulkAll]
  | cons x r ih => have := one_le x; simp only [Rows.uptoBulkAll, List.length_cons]; omega
theorem slice_elems {H : Type} (elems spare : List (DataW H)) : Rows.uptoBulkAll elems + 1 ≤ Rows.uptoBulk (.slice elems spare) := by
  simp only [Rows.uptoBulk]
  omega
theorem string_bulk {H : Type} (s : ByteArray) : Rows.uptoBulk (DataW.lit (H := H) (.string s.data.toList)) = s.size + 1 := by
  simp [Rows.uptoBulk]
theorem bound {H : Type} {l : List (DataW H)} (hk : Rows.uptoSmall H l = true) : Rows.uptoBulkAll l ≤ 1048576 := of_decide_eq_true hk

/-- What a walk is told of a slice of numbers that came in. -/
structure InS (w : World) (v : Value) (zs : List Int) : Prop where
  ints : IntS w v zs
  wf : Wf zs
  nilOr : v = .slice none 0 0 ∨ ∃ x l c, v = .slice (some x) l c
theorem ints_of {H : Type} {enc : TypeId × Value → H} {W : World} {t e : TypeId} {a : Option Addr} {len cap : Nat} {d : DataW H} {p : List MemPlace} (ht : Tryd.prog.underlying t = some (.slice e)) (he : Tryd.prog.underlying e = some (.int .i64)) (hc : Tryd.prog.cellsOf e = 1)
    (h : DataW.Trod enc Tryd.prog W 0 (fun _ => true) true t (.slice a len cap) d p) : ∃ zs, InS W (.slice a len cap) zs ∧ zs.length + 1 ≤ Rows.uptoBulk d ∧ (zs = [] ∨ ∃ elems spare, d = .slice elems spare ∧ zs.length ≤ elems.length) := by
  obtain ⟨fuel, hf⟩ := h
  rcases open_ints ht he hc hf with ⟨hcs, hx⟩ | ⟨x, l, c, zs, hcs, _, hl, hm, hz, hx, hcell, hwz⟩
  · simp [Value.cells] at hcs
    obtain ⟨rfl, rfl, rfl⟩ := hcs
    exact ⟨[], ⟨⟨none, 0, rfl, Nat.le_refl _, by omega, fun h => by simp at h⟩, fun z hz => absurd hz List.not_mem_nil, .inl rfl⟩, by have := one_le d; simp; omega, .inl rfl⟩
  · simp [Value.cells] at hcs
    obtain ⟨rfl, rfl, rfl⟩ := hcs
    simp only [if_true] at hz
    have hd : d = .slice (lits .i64 (zs.take len)) (lits .i64 (zs.drop len)) := congrArg Prod.fst hx
    have hle : len ≤ (lits (H := H) .i64 (zs.take len)).length := by simp [lits]; omega
    have hzt : (zs.take len).length = len := by rw [List.length_take]; omega
    have hspot : 0 < len → ∃ b off, x = ⟨b, off, none⟩ ∧ b < W.heap.size := by
      intro h0
      obtain ⟨b, off, spot⟩ := x
      have hc0 := hcell 0 (by omega)
      have hspot : spot = none := by simpa [Addr.add] using World.cell?_spot hc0
      subst hspot
      exact ⟨b, off, rfl, World.block_lt_of_cell? W _ hc0⟩
    refine ⟨zs.take len, ⟨⟨some x, cap, by rw [hzt], by omega, by unfold maxLen at hm; omega, fun h0 => ?_⟩, fun z hz => ?_, .inr ⟨_, _, _, rfl⟩⟩, ?_, .inr ⟨_, _, hd, by rw [hzt]; exact hle⟩⟩
    · obtain ⟨b, off, rfl, hb⟩ := hspot (by omega)
      refine ⟨b, off, rfl, hb, fun j hj => ?_⟩
      have hj' : j < zs.length := by omega
      have := hcell j hj'
      rw [show (⟨b, off, none⟩ : Addr).add j = ⟨b, off + j, none⟩ from by unfold Addr.add; split <;> simp_all] at this
      rw [this, List.getElem_take]
      simp [List.getD, List.getElem?_eq_getElem hj']
    · exact bounds_i64 (hwz z (List.mem_of_mem_take hz))
    · have h1 := length_le (lits (H := H) .i64 (zs.take len))
      have h2 := slice_elems (lits (H := H) .i64 (zs.take len)) (lits (H := H) .i64 (zs.drop len))
      rw [hd, hzt]
      omega

/-- A block's cells in the place of what it holds. -/
def cellsIn (cs : Array Value) : Obj → Obj
  | .cells _ t frozen => .cells cs t frozen
  | o => o
/-- The world of a witness: the listed variables hold what their text lays. -/
noncomputable def laidWorld (os : Os) : World :=
  { World.holding Tryd.prog os ⟨#[], #[], []⟩ with heap := ((World.holding Tryd.prog os ⟨#[], #[], []⟩).heap.modify 0 (cellsIn (Go.Pinned.utf8FirstZ.map fun (n : Nat) => Value.int .u8 (n : Int)).toArray)).modify 1 (cellsIn (#[128, 191, 160, 191, 128, 159, 144, 191, 128, 143, 0, 0, 0, 0, 0, 0, 0, 0, 0, 0, 0, 0, 0, 0, 0, 0, 0, 0, 0, 0, 0, 0].map fun (n : Int) => Value.int .u8 n)) }
/-- What the rows list. -/
def listed : List (String × DataW Unit) := [("unicode/utf8.acceptRanges", Rows.laid_unicode_utf8_acceptRanges), ("unicode/utf8.first", Rows.laid_unicode_utf8_first)]
theorem accept_eq : Rows.laid_unicode_utf8_acceptRanges (H := Unit) = acceptData := by kernel_rfl
theorem first_eq : Rows.laid_unicode_utf8_first = firstData := Pinned.utf8First_eq
theorem tabs_of {W : World} (hL : laidMet Tryd.prog listed W) : Tabs W := by
  unfold listed at hL
  rw [accept_eq, first_eq] at hL
  exact utf8Tabs_of_readsT (U8Types.of196 Tryd.lays196) ⟨by kernel_rfl, by kernel_rfl, by kernel_rfl, by kernel_rfl, by kernel_rfl, by kernel_rfl, by kernel_rfl⟩ (Lib.laidMet.reads hL (.tail _ (.head _))) (Lib.laidMet.reads hL (.head _))
end Go.Proofs.YtedloedfbegbkaaDoor.frame
