/-
  Automata in memory: slices of arcs, of states, of loose states, wherever they lie.
-/
import Derived.Test.YtmpjhbbcfnffhaaProg
import Derived.Test.YtmpjhbbcfnffhaaZe
import Derived.Test.YtmpjhbbcfnffhaaMm
import Derived.WalkKit
import Derived.WalkSpells
import Derived.WalkLawsBesides
import Derived.IntWalk
import Derived.Lib.Hide
import Derived.OwnWalk
import Derived.Deep.LoopGhost
import Derived.Deep.OwnRows
import Derived.BigQuiet
import Derived.Laws.AppendOwnNone
import Derived.Laws.StructEq
namespace Go.Proofs.Ytmpjhbbcfnffhaa
open Go.RowKit

theorem chain {w w2 w3 : World} (h : Below w.heap.size w w2) (hb : Below w2.heap.size w2 w3) : Below w.heap.size w w3 := h.trans (hb.mono h.size)
theorem cell_same {w w' : World} {a : Addr} (h : w'.heap[a.block]? = w.heap[a.block]?) : w'.cell? a = w.cell? a := World.cell?_of_block (w := w) h

/-- The value v is a slice of these arcs, in a block of F. -/
def ArcS (F : Nat → Prop) (w : World) (v : Value) (l : List Au.Arc) : Prop :=
  ∃ a cap, v = .slice a l.length cap ∧ l.length ≤ cap ∧ cap ≤ 9223372036854775807 ∧ (0 < l.length → ∃ g o, a = some ⟨g, o, none⟩ ∧ g < w.heap.size ∧ F g ∧
    ∀ j (_ : j < l.length), w.cell? ⟨g, o + j * 3, none⟩ = some (.int .i64 l[j].lo) ∧ w.cell? ⟨g, o + j * 3 + 1, none⟩ = some (.int .i64 l[j].hi) ∧ w.cell? ⟨g, o + j * 3 + 2, none⟩ = some (.int .i64 l[j].to))
theorem ArcS.keep {F : Nat → Prop} {w w' : World} {v : Value} {l : List Au.Arc} (h : ArcS F w v l) (hs : w.heap.size ≤ w'.heap.size) (e : ∀ g, F g → g < w.heap.size → w'.heap[g]? = w.heap[g]?) : ArcS F w' v l := by
  obtain ⟨a, cap, h1, h2, h3, h4⟩ := h
  refine ⟨a, cap, h1, h2, h3, fun h0 => ?_⟩
  obtain ⟨g, o, h5, h6, h7, h8⟩ := h4 h0
  have hb := e g h7 h6
  refine ⟨g, o, h5, Nat.lt_of_lt_of_le h6 hs, h7, fun j hj => ?_⟩
  obtain ⟨a1, a2, a3⟩ := h8 j hj
  exact ⟨(cell_same hb).trans a1, (cell_same hb).trans a2, (cell_same hb).trans a3⟩
theorem ArcS.wide {F G : Nat → Prop} {w : World} {v : Value} {l : List Au.Arc} (h : ArcS F w v l) (hm : ∀ g, g < w.heap.size → F g → G g) : ArcS G w v l := by
  obtain ⟨a, cap, h1, h2, h3, h4⟩ := h
  refine ⟨a, cap, h1, h2, h3, fun h0 => ?_⟩
  obtain ⟨g, o, h5, h6, h7, h8⟩ := h4 h0
  exact ⟨g, o, h5, h6, hm g h6 h7, h8⟩
/-- The value v is a slice of these numbers, in a block of F. -/
def NumS (F : Nat → Prop) (w : World) (v : Value) (l : List Int) : Prop :=
  ∃ a cap, v = .slice a l.length cap ∧ l.length ≤ cap ∧ cap ≤ 9223372036854775807 ∧ (0 < l.length → ∃ g o, a = some ⟨g, o, none⟩ ∧ g < w.heap.size ∧ F g ∧ ∀ j (_ : j < l.length), w.cell? ⟨g, o + j, none⟩ = some (.int .i64 l[j]))
theorem NumS.keep {F : Nat → Prop} {w w' : World} {v : Value} {l : List Int} (h : NumS F w v l) (hs : w.heap.size ≤ w'.heap.size) (e : ∀ g, F g → g < w.heap.size → w'.heap[g]? = w.heap[g]?) : NumS F w' v l := by
  obtain ⟨a, cap, h1, h2, h3, h4⟩ := h
  refine ⟨a, cap, h1, h2, h3, fun h0 => ?_⟩
  obtain ⟨g, o, h5, h6, h7, h8⟩ := h4 h0
  have hb := e g h7 h6
  exact ⟨g, o, h5, Nat.lt_of_lt_of_le h6 hs, h7, fun j hj => (cell_same hb).trans (h8 j hj)⟩
/-- The value v is a slice of these states, all of it in blocks of F. -/
def StS (F : Nat → Prop) (w : World) (v : Value) (d : List Au.St) : Prop :=
  ∃ a cap, v = .slice a d.length cap ∧ d.length ≤ cap ∧ cap ≤ 9223372036854775807 ∧ (0 < d.length → ∃ g o, a = some ⟨g, o, none⟩ ∧ g < w.heap.size ∧ F g ∧
    ∀ j (_ : j < d.length), w.cell? ⟨g, o + j * 2, none⟩ = some (.bool d[j].fin) ∧ ∃ va, w.cell? ⟨g, o + j * 2 + 1, none⟩ = some va ∧ ArcS F w va d[j].arcs)
theorem StS.keep {F : Nat → Prop} {w w' : World} {v : Value} {d : List Au.St} (h : StS F w v d) (hs : w.heap.size ≤ w'.heap.size) (e : ∀ g, F g → g < w.heap.size → w'.heap[g]? = w.heap[g]?) : StS F w' v d := by
  obtain ⟨a, cap, h1, h2, h3, h4⟩ := h
  refine ⟨a, cap, h1, h2, h3, fun h0 => ?_⟩
  obtain ⟨g, o, h5, h6, h7, h8⟩ := h4 h0
  have hb := e g h7 h6
  refine ⟨g, o, h5, Nat.lt_of_lt_of_le h6 hs, h7, fun j hj => ?_⟩
  obtain ⟨a1, va, a2, a3⟩ := h8 j hj
  exact ⟨(cell_same hb).trans a1, va, (cell_same hb).trans a2, a3.keep hs e⟩
theorem StS.wide {F G : Nat → Prop} {w : World} {v : Value} {d : List Au.St} (h : StS F w v d) (hm : ∀ g, g < w.heap.size → F g → G g) : StS G w v d := by
  obtain ⟨a, cap, h1, h2, h3, h4⟩ := h
  refine ⟨a, cap, h1, h2, h3, fun h0 => ?_⟩
  obtain ⟨g, o, h5, h6, h7, h8⟩ := h4 h0
  refine ⟨g, o, h5, h6, hm g h6 h7, fun j hj => ?_⟩
  obtain ⟨a1, va, a2, a3⟩ := h8 j hj
  exact ⟨a1, va, a2, a3.wide hm⟩
/-- The value v is a slice of these loose states. -/
def LoS (F : Nat → Prop) (w : World) (v : Value) (n : List Au.Lo) : Prop :=
  ∃ a cap, v = .slice a n.length cap ∧ n.length ≤ cap ∧ cap ≤ 9223372036854775807 ∧ (0 < n.length → ∃ g o, a = some ⟨g, o, none⟩ ∧ g < w.heap.size ∧ F g ∧
    ∀ j (_ : j < n.length), w.cell? ⟨g, o + j * 3, none⟩ = some (.bool n[j].fin) ∧ (∃ va, w.cell? ⟨g, o + j * 3 + 1, none⟩ = some va ∧ ArcS F w va n[j].arcs) ∧ ∃ vf, w.cell? ⟨g, o + j * 3 + 2, none⟩ = some vf ∧ NumS F w vf n[j].free)
theorem LoS.keep {F : Nat → Prop} {w w' : World} {v : Value} {d : List Au.Lo} (h : LoS F w v d) (hs : w.heap.size ≤ w'.heap.size) (e : ∀ g, F g → g < w.heap.size → w'.heap[g]? = w.heap[g]?) : LoS F w' v d := by
  obtain ⟨a, cap, h1, h2, h3, h4⟩ := h
  refine ⟨a, cap, h1, h2, h3, fun h0 => ?_⟩
  obtain ⟨g, o, h5, h6, h7, h8⟩ := h4 h0
  have hb := e g h7 h6
  refine ⟨g, o, h5, Nat.lt_of_lt_of_le h6 hs, h7, fun j hj => ?_⟩
  obtain ⟨a1, ⟨va, a2, a3⟩, vf, a4, a5⟩ := h8 j hj
  exact ⟨(cell_same hb).trans a1, ⟨va, (cell_same hb).trans a2, a3.keep hs e⟩, vf, (cell_same hb).trans a4, a5.keep hs e⟩
theorem StS.below {F : Nat → Prop} {w w' : World} {v : Value} {d : List Au.St} (h : StS F w v d) (hb : Below w.heap.size w w') : StS F w' v d := h.keep hb.size fun g _ hg => hb.block g hg
theorem LoS.below {F : Nat → Prop} {w w' : World} {v : Value} {d : List Au.Lo} (h : LoS F w v d) (hb : Below w.heap.size w w') : LoS F w' v d := h.keep hb.size fun g _ hg => hb.block g hg
theorem ArcS.below {F : Nat → Prop} {w w' : World} {v : Value} {l : List Au.Arc} (h : ArcS F w v l) (hb : Below w.heap.size w w') : ArcS F w' v l := h.keep hb.size fun g _ hg => hb.block g hg
theorem NumS.below {F : Nat → Prop} {w w' : World} {v : Value} {l : List Int} (h : NumS F w v l) (hb : Below w.heap.size w w') : NumS F w' v l := h.keep hb.size fun g _ hg => hb.block g hg

namespace Au
/-- Where a byte leads, as 8.1 tells it: -1 to none. -/
def step (d : List St) (s c : Int) : Int := if s < 0 ∨ (d.length : Int) ≤ s then -1 else match d[s.toNat]? with
  | some a => (look a.arcs c).getD (-1)
  | none => -1
end Au
end Go.Proofs.Ytmpjhbbcfnffhaa
