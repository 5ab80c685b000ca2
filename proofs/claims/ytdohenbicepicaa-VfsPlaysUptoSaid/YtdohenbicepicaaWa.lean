/-
  The program's disk at a place of memory: what it holds, and its small calls.
-/
import Derived.Test.YtdohenbicepicaaWm
import Derived.Test.YtdohenbicepicaaVu
namespace Go.Proofs.Ytdohenbicepicaa
open Go.RowKit Go.Maps

/-! ### the plain disk -/
namespace Vf
/-- A file that a name stands for. -/
def Live (D : Dk) (m : Nat) : Prop := ∃ x, (x ∈ D.names ∨ x ∈ D.kept) ∧ x.n = m
def faultC (D : Dk) : Int := if D.armed < 0 then 0 else D.fault
def leftC (D : Dk) : Int := if D.armed < 0 then 0 else D.armed
/-- What names lead to. -/
def leads (φ : Nat → Nat) (l : List Lk) (s : ByteArray) : Option Nat := if find l s = 0 then none else some (φ (find l s))
/-- One after the other, by their names. -/
def Rise (l : List Lk) : Prop := l.Pairwise fun a b => ltB a.name b.name = true
/-- A disk that calls have led to: c calls at most, each with at most m bytes. -/
structure Ok (D : Dk) (c m : Nat) : Prop where
  names : D.names.length ≤ c
  kept : D.kept.length ≤ c
  nrise : Rise D.names
  krise : Rise D.kept
  nums : ∀ x, x ∈ D.names ∨ x ∈ D.kept → 1 ≤ x.n ∧ x.n ≤ D.last ∧ okN x.name = true ∧ place D.files x.n < D.files.length
  last : D.last ≤ c
  steps : D.steps ≤ c
  armed : -1 ≤ D.armed ∧ D.armed ≤ 9223372036854775807
  fault : 0 ≤ D.armed → D.fault = 13 ∨ D.fault = 14 ∨ D.fault = 15
  files : ∀ f ∈ D.files, f.data.size ≤ c * m ∧ f.sure ≤ f.data.size ∧ f.n ≤ D.last
end Vf

/-! ### in memory -/
def FileA (w : World) (b : Nat) (v : Value) (f : Vf.Fl) : Prop := RowT 73 w b #[v, .int .i64 (f.sure : Int)] ∧ w.ownsRow 0 5 1 v f.data.size (f.data.data.toList.map fun c => Value.int .u8 (c.toNat : Int))
def prC (mn ms : Nat) (D : Vf.Dk) : Array Value := #[.map (some mn), .map (some ms), .int .i64 (D.steps : Int), .bool D.down, .int .i64 (Vf.faultC D), .int .i64 (Vf.leftC D)]
structure PrA (w : World) (p mn ms : Nat) (φ : Nat → Nat) (ρ : Nat → Value) (D : Vf.Dk) : Prop where
  row : RowT 57 w p (prC mn ms D)
  now : MapA w mn D.names.length (Vf.leads φ D.names)
  sure : MapA w ms D.kept.length (Vf.leads φ D.kept)
  ne : mn ≠ ms
  file : ∀ m, Vf.Live D m → FileA w (φ m) (ρ m) (Vf.fileAt D.files m)
  inj : ∀ m m', Vf.Live D m → Vf.Live D m' → φ m = φ m' → m = m'
  apart : ∀ m m' k, Vf.Live D m → Vf.Live D m' → (ρ m).ownBlock = some k → (ρ m').ownBlock = some k → m = m'
def PFoot (p mn ms : Nat) (φ : Nat → Nat) (ρ : Nat → Value) (D : Vf.Dk) (k : Nat) : Prop := k = p ∨ k = mn ∨ k = ms ∨ ∃ m, Vf.Live D m ∧ (k = φ m ∨ (ρ m).ownBlock = some k)
theorem PrA.lt {w : World} {p mn ms : Nat} {φ : Nat → Nat} {ρ : Nat → Value} {D : Vf.Dk} (h : PrA w p mn ms φ ρ D) : ∀ k, PFoot p mn ms φ ρ D k → k < w.heap.size := by
  intro k hk
  rcases hk with rfl | rfl | rfl | ⟨m, hm, rfl | hk⟩
  · exact h.row.lt
  · exact h.now.lt
  · exact h.sure.lt
  · exact (h.file m hm).1.lt
  · exact (World.ownsRow.lt (h.file m hm).2 k hk).2
theorem FileA.keep {w w' : World} {b : Nat} {v : Value} {f : Vf.Fl} (h : FileA w b v f) (e : w'.heap[b]? = w.heap[b]?) (e2 : ∀ k, v.ownBlock = some k → w'.heap[k]? = w.heap[k]?) : FileA w' b v f :=
  ⟨h.1.keep e, ownsRow_keep h.2 e2⟩
theorem PrA.keep {w w' : World} {p mn ms : Nat} {φ : Nat → Nat} {ρ : Nat → Value} {D : Vf.Dk} (h : PrA w p mn ms φ ρ D) (e : ∀ k, PFoot p mn ms φ ρ D k → w'.heap[k]? = w.heap[k]?) : PrA w' p mn ms φ ρ D :=
  ⟨h.row.keep (e p (.inl rfl)), h.now.keep (e mn (.inr (.inl rfl))), h.sure.keep (e ms (.inr (.inr (.inl rfl)))), h.ne, fun m hm => (h.file m hm).keep (e _ (.inr (.inr (.inr ⟨m, hm, .inl rfl⟩)))) fun k hk => e k (.inr (.inr (.inr ⟨m, hm, .inr hk⟩))), h.inj, h.apart⟩
/-- The program's disk D lies at p, in the blocks F. -/
def PA (w : World) (p : Nat) (D : Vf.Dk) (F : Nat → Prop) : Prop := ∃ mn ms φ ρ, PrA w p mn ms φ ρ D ∧ (∀ k, PFoot p mn ms φ ρ D k → F k) ∧ (∀ k, F k → k < w.heap.size)
theorem PA.keep {w w' : World} {p : Nat} {D : Vf.Dk} {F : Nat → Prop} (h : PA w p D F) (e : ∀ k, F k → w'.heap[k]? = w.heap[k]?) (hs : w.heap.size ≤ w'.heap.size) : PA w' p D F := by
  obtain ⟨mn, ms, φ, ρ, hA, h1, h2⟩ := h
  exact ⟨mn, ms, φ, ρ, hA.keep fun k hk => e k (h1 k hk), h1, fun k hk => Nat.lt_of_lt_of_le (h2 k hk) hs⟩
/-- F and what is new. -/
def FNew (F : Nat → Prop) (w w' : World) (k : Nat) : Prop := F k ∨ (w.heap.size ≤ k ∧ k < w'.heap.size)
def PPost (w : World) (p : Nat) (F : Nat → Prop) (r : Int × Vf.Dk) (e' : Ending) (w' : World) : Prop :=
  e' = .returned (.int .i64 r.1) ∧ PA w' p r.2 (FNew F w w') ∧ KeptF F w w'
theorem PA.more {w : World} {p : Nat} {D : Vf.Dk} {F G : Nat → Prop} (h : PA w p D F) (hm : ∀ k, F k → G k) (hl : ∀ k, G k → k < w.heap.size) : PA w p D G := by
  obtain ⟨mn, ms, φ, ρ, hA, h1, _⟩ := h
  exact ⟨mn, ms, φ, ρ, hA, fun k hk => hm k (h1 k hk), hl⟩
theorem FNew.lt {w w' : World} {p : Nat} {D : Vf.Dk} {F : Nat → Prop} (h : PA w p D F) (hs : w.heap.size ≤ w'.heap.size) : ∀ k, FNew F w w' k → k < w'.heap.size := by
  obtain ⟨_, _, _, _, _, _, h2⟩ := h
  intro k hk
  rcases hk with hk | ⟨_, hk⟩
  · exact Nat.lt_of_lt_of_le (h2 k hk) hs
  · exact hk
/-- Nothing of it has turned. -/
theorem PPost.same {w w' : World} {p : Nat} {D : Vf.Dk} {F : Nat → Prop} {e : Int} (h : PA w p D F) (hb : Below w.heap.size w w') : PPost w p F (e, D) (.returned (.int .i64 e)) w' := by
  have h2 := h
  obtain ⟨mn, ms, φ, ρ, hA, h1, hl⟩ := h2
  exact ⟨rfl, (h.keep (fun k hk => hb.block k (hl k hk)) hb.size).more (fun k hk => .inl hk) (FNew.lt h hb.size), KeptF.of_below hb⟩
end Go.Proofs.Ytdohenbicepicaa
