/-
  Lists of postings in memory: the rows, and each posting's places, in blocks of a kind.
-/
import Derived.Test.YtokdjaljeckghaaPa
import Derived.Test.YtokdjaljeckghaaInts
namespace Go.Proofs.Ytokdjaljeckghaa
open Go.RowKit
theorem blk_cell {w w' : World} {a : Addr} (h : w'.heap[a.block]? = w.heap[a.block]?) : w'.cell? a = w.cell? a := World.cell?_of_block (w := w) h
/-- A slice of numbers in a block of a kind. -/
def IntF (F : Nat → Prop) (w : World) (v : Value) (l : List Int) : Prop :=
  ∃ a cap, v = .slice a l.length cap ∧ l.length ≤ cap ∧ cap ≤ 9223372036854775807 ∧ (0 < l.length → ∃ g o, a = some ⟨g, o, none⟩ ∧ g < w.heap.size ∧ F g ∧ ∀ j (_ : j < l.length), w.cell? ⟨g, o + j, none⟩ = some (.int .i64 l[j]))
theorem IntF.keep {F : Nat → Prop} {w w' : World} {v : Value} {l : List Int} (h : IntF F w v l) (hs : w.heap.size ≤ w'.heap.size) (e : ∀ g, F g → g < w.heap.size → w'.heap[g]? = w.heap[g]?) : IntF F w' v l := by
  obtain ⟨a, cap, h1, h2, h3, h4⟩ := h
  refine ⟨a, cap, h1, h2, h3, fun h0 => ?_⟩
  obtain ⟨g, o, h5, h6, h7, h8⟩ := h4 h0
  have hb := e g h7 h6
  exact ⟨g, o, h5, Nat.lt_of_lt_of_le h6 hs, h7, fun j hj => (blk_cell hb).trans (h8 j hj)⟩
theorem IntF.below {F : Nat → Prop} {w w' : World} {v : Value} {l : List Int} (h : IntF F w v l) (hb : Below w.heap.size w w') : IntF F w' v l := h.keep hb.size fun g _ hg => hb.block g hg
theorem IntF.wide {F G : Nat → Prop} {w : World} {v : Value} {l : List Int} (h : IntF F w v l) (hm : ∀ g, g < w.heap.size → F g → G g) : IntF G w v l := by
  obtain ⟨a, cap, h1, h2, h3, h4⟩ := h
  refine ⟨a, cap, h1, h2, h3, fun h0 => ?_⟩
  obtain ⟨g, o, h5, h6, h7, h8⟩ := h4 h0
  exact ⟨g, o, h5, h6, hm g h6 h7, h8⟩
theorem IntF.ints {F : Nat → Prop} {w : World} {v : Value} {l : List Int} (h : IntF F w v l) : IntS w v l := by
  obtain ⟨a, cap, h1, h2, h3, h4⟩ := h
  refine ⟨a, cap, h1, h2, h3, fun h0 => ?_⟩
  obtain ⟨g, o, h5, h6, _, h8⟩ := h4 h0
  exact ⟨g, o, h5, h6, h8⟩
theorem IntS.intF {w : World} {v : Value} {l : List Int} (h : IntS w v l) : IntF (fun _ => True) w v l := by
  obtain ⟨a, cap, h1, h2, h3, h4⟩ := h
  refine ⟨a, cap, h1, h2, h3, fun h0 => ?_⟩
  obtain ⟨g, o, h5, h6, h8⟩ := h4 h0
  exact ⟨g, o, h5, h6, trivial, h8⟩
/-- A slice of postings: rows of two cells, the second one a slice of numbers, all in blocks of a kind. -/
def PoS (F : Nat → Prop) (w : World) (v : Value) (d : List Pt.Po) : Prop :=
  ∃ a cap, v = .slice a d.length cap ∧ d.length ≤ cap ∧ cap ≤ 9223372036854775807 ∧ (0 < d.length → ∃ g o, a = some ⟨g, o, none⟩ ∧ g < w.heap.size ∧ F g ∧
    ∀ j (_ : j < d.length), w.cell? ⟨g, o + j * 2, none⟩ = some (.int .i64 d[j].doc) ∧ ∃ va, w.cell? ⟨g, o + j * 2 + 1, none⟩ = some va ∧ IntF F w va d[j].ats)
theorem PoS.nil (F : Nat → Prop) (w : World) : PoS F w (.slice none 0 0) [] := ⟨none, 0, rfl, Nat.le_refl _, by omega, fun h => by simp at h⟩
theorem PoS.keep {F : Nat → Prop} {w w' : World} {v : Value} {d : List Pt.Po} (h : PoS F w v d) (hs : w.heap.size ≤ w'.heap.size) (e : ∀ g, F g → g < w.heap.size → w'.heap[g]? = w.heap[g]?) : PoS F w' v d := by
  obtain ⟨a, cap, h1, h2, h3, h4⟩ := h
  refine ⟨a, cap, h1, h2, h3, fun h0 => ?_⟩
  obtain ⟨g, o, h5, h6, h7, h8⟩ := h4 h0
  have hb := e g h7 h6
  refine ⟨g, o, h5, Nat.lt_of_lt_of_le h6 hs, h7, fun j hj => ?_⟩
  obtain ⟨a1, va, a2, a3⟩ := h8 j hj
  exact ⟨(blk_cell hb).trans a1, va, (blk_cell hb).trans a2, a3.keep hs e⟩
theorem PoS.below {F : Nat → Prop} {w w' : World} {v : Value} {d : List Pt.Po} (h : PoS F w v d) (hb : Below w.heap.size w w') : PoS F w' v d := h.keep hb.size fun g _ hg => hb.block g hg
theorem PoS.wide {F G : Nat → Prop} {w : World} {v : Value} {d : List Pt.Po} (h : PoS F w v d) (hm : ∀ g, g < w.heap.size → F g → G g) : PoS G w v d := by
  obtain ⟨a, cap, h1, h2, h3, h4⟩ := h
  refine ⟨a, cap, h1, h2, h3, fun h0 => ?_⟩
  obtain ⟨g, o, h5, h6, h7, h8⟩ := h4 h0
  refine ⟨g, o, h5, h6, hm g h6 h7, fun j hj => ?_⟩
  obtain ⟨a1, va, a2, a3⟩ := h8 j hj
  exact ⟨a1, va, a2, a3.wide hm⟩
theorem PoS.len {F : Nat → Prop} {w : World} {v : Value} {d : List Pt.Po} (h : PoS F w v d) : d.length ≤ 9223372036854775807 := by
  obtain ⟨a, cap, _, h2, h3, _⟩ := h
  omega
theorem PoS.each {F : Nat → Prop} {w : World} {v : Value} {d : List Pt.Po} (h : PoS F w v d) : ∀ p ∈ d, p.ats.length ≤ 9223372036854775807 := fun p hp => by
  obtain ⟨a, cap, _, _, _, h4⟩ := h
  obtain ⟨j, hj, rfl⟩ := List.mem_iff_getElem.1 hp
  obtain ⟨g, o, _, _, _, h8⟩ := h4 (by omega)
  obtain ⟨_, va, _, a, cap, _, h2, h3, _⟩ := h8 j hj
  omega
end Go.Proofs.Ytokdjaljeckghaa
