/-
  Postings whose numbers are written over: the rows and the lists stay where they lie.
-/
import Derived.Test.YtokdjaljeckghaaPr
namespace Go.Proofs.Ytokdjaljeckghaa
open Go.RowKit
/-- Rows of postings in one block, each list of places in a block of numbers; what numbers stand there is not told. -/
structure Wo (w : World) (B C g n : Nat) (vs : List Value) : Prop where
  base : B ≤ g
  top : g < C
  blk : ∃ cs : Array Value, w.heap[g]? = some (.cells cs 40 (0, 0)) ∧ n * 2 ≤ cs.size ∧ ∀ j (_ : j < n) (_ : j < vs.length), cs[j * 2 + 1]? = some vs[j]
  len : vs.length = n
  each : ∀ j (_ : j < vs.length), ∃ a m c q, vs[j] = .slice a m c ∧ m ≤ c ∧ c ≤ 9223372036854775807 ∧ (0 < m → a = some ⟨q, 0, none⟩ ∧ B ≤ q ∧ q < C ∧ ∃ cs : Array Value, w.heap[q]? = some (.cells cs 3 (0, 0)) ∧ m ≤ cs.size)
theorem Wo.keep {w w' : World} {B C g n : Nat} {vs : List Value} (h : Wo w B C g n vs) (e : ∀ k, B ≤ k → k < C → w'.heap[k]? = w.heap[k]?) : Wo w' B C g n vs := by
  obtain ⟨cs, h1, h2, h3⟩ := h.blk
  refine ⟨h.base, h.top, ⟨cs, (e g h.base h.top).trans h1, h2, h3⟩, h.len, fun j hj => ?_⟩
  obtain ⟨a, m, c, q, q1, q2, q3, q4⟩ := h.each j hj
  refine ⟨a, m, c, q, q1, q2, q3, fun h0 => ?_⟩
  obtain ⟨q5, q6, q7, cs, q8, q9⟩ := q4 h0
  exact ⟨q5, q6, q7, cs, (e q q6 q7).trans q8, q9⟩
theorem Wo.row {w : World} {B C g n : Nat} {vs : List Value} (h : Wo w B C g n vs) (j : Nat) (hj : j < n) : (∃ (hv : j < vs.length), w.cell? ⟨g, j * 2 + 1, none⟩ = some vs[j]) ∧ (∃ u, w.cell? ⟨g, j * 2, none⟩ = some u) ∧ ∀ i, w.frozen? ⟨g, i, none⟩ = false := by
  obtain ⟨cs, h1, h2, h3⟩ := h.blk
  have hv : j < vs.length := by rw [h.len]; exact hj
  refine ⟨⟨hv, ?_⟩, ⟨cs[j * 2]'(by omega), ?_⟩, fun i => by simp [World.frozen?, h1]⟩
  · simp only [World.cell?, h1]
    exact h3 j hj hv
  · simp [World.cell?, h1, show j * 2 < cs.size by omega]
theorem int_at {w : World} {q m : Nat} {cs : Array Value} (h : w.heap[q]? = some (.cells cs 3 (0, 0))) (hm : m ≤ cs.size) (k : Nat) (hk : k < m) : (∃ u, w.cell? ⟨q, k, none⟩ = some u) ∧ w.frozen? ⟨q, k, none⟩ = false :=
  ⟨⟨cs[k]'(by omega), by simp [World.cell?, h, show k < cs.size by omega]⟩, by simp [World.frozen?, h]⟩
theorem int_set {w : World} {q m k p : Nat} {x : Value} (h : ∃ cs : Array Value, w.heap[q]? = some (.cells cs 3 (0, 0)) ∧ m ≤ cs.size) : ∃ cs : Array Value, (w.setCell ⟨p, k, none⟩ x).heap[q]? = some (.cells cs 3 (0, 0)) ∧ m ≤ cs.size := by
  obtain ⟨cs, h1, h2⟩ := h
  by_cases e : q = p
  · subst e
    exact ⟨_, heap_set _ _ _ _ _ _ _ h1, by rw [Array.size_setIfInBounds]; exact h2⟩
  · exact ⟨cs, (heap_other _ _ _ _ _ e).trans h1, h2⟩
/-- A number of a list is written over. -/
theorem Wo.setI {w : World} {B C g n : Nat} {vs : List Value} (h : Wo w B C g n vs) (q k : Nat) (x : Value) (hq : ∃ cs : Array Value, w.heap[q]? = some (.cells cs 3 (0, 0))) : Wo (w.setCell ⟨q, k, none⟩ x) B C g n vs := by
  obtain ⟨cs, h1, h2, h3⟩ := h.blk
  obtain ⟨cq, hq⟩ := hq
  refine ⟨h.base, h.top, ⟨cs, (heap_other _ _ _ _ _ (kinds_ne h1 hq (by decide))).trans h1, h2, h3⟩, h.len, fun j hj => ?_⟩
  obtain ⟨a, m, c, p, q1, q2, q3, q4⟩ := h.each j hj
  refine ⟨a, m, c, p, q1, q2, q3, fun h0 => ?_⟩
  obtain ⟨q5, q6, q7, q8⟩ := q4 h0
  exact ⟨q5, q6, q7, int_set q8⟩
/-- A document's number is written over. -/
theorem Wo.setD {w : World} {B C g n : Nat} {vs : List Value} (h : Wo w B C g n vs) (k : Nat) (x : Value) : Wo (w.setCell ⟨g, k * 2, none⟩ x) B C g n vs := by
  obtain ⟨cs, h1, h2, h3⟩ := h.blk
  refine ⟨h.base, h.top, ⟨_, heap_set _ _ _ _ _ _ _ h1, by rw [Array.size_setIfInBounds]; exact h2, fun j j1 j2 => ?_⟩, h.len, fun j hj => ?_⟩
  · rw [Array.getElem?_setIfInBounds_ne (by omega)]
    exact h3 j j1 j2
  · obtain ⟨a, m, c, p, q1, q2, q3, q4⟩ := h.each j hj
    refine ⟨a, m, c, p, q1, q2, q3, fun h0 => ?_⟩
    obtain ⟨q5, q6, q7, q8⟩ := q4 h0
    exact ⟨q5, q6, q7, int_set q8⟩
theorem OwnI.blk {w : World} {B : Nat} {v : Value} {l : List Int} (h : OwnI w B v l) : ∃ a c q, v = .slice a l.length c ∧ l.length ≤ c ∧ c ≤ 9223372036854775807 ∧ (0 < l.length → a = some ⟨q, 0, none⟩ ∧ B ≤ q ∧ q < w.heap.size ∧ ∃ cs : Array Value, w.heap[q]? = some (.cells cs 3 (0, 0)) ∧ l.length ≤ cs.size) := by
  rcases h.2 with ⟨rfl, h0⟩ | ⟨g, cap, cur, rfl, hg, hh, hnc, hcp, hcs, _⟩
  · exact ⟨none, 0, 0, by rw [h0], by omega, by omega, fun h => by omega⟩
  · exact ⟨_, cap, g, rfl, hnc, by unfold maxLen at hcp; omega, fun _ => ⟨rfl, hg, blk_lt hh, cur, hh, by omega⟩⟩
theorem OwnP.wo {w : World} {B : Nat} {v : Value} {d : List Pt.Po} {vs : List Value} (h : OwnP w B v d vs) (h0 : 0 < d.length) : ∃ g cap, v = .slice (some ⟨g, 0, none⟩) d.length cap ∧ d.length ≤ cap ∧ cap ≤ 9223372036854775807 ∧ Wo w B w.heap.size g d.length vs := by
  rcases h.own.2 with ⟨_, q⟩ | ⟨g, cap, cur, rfl, hg, hh, hnc, hcp, hcs, htake⟩
  · omega
  · refine ⟨g, cap, rfl, hnc, by unfold maxLen at hcp; omega, hg, blk_lt hh, ⟨cur, hh, by omega, fun j j1 j2 => ?_⟩, h.len, fun j hj => ?_⟩
    · have e := poV_v h.len j j2
      rw [← htake, List.getElem?_take_of_lt (by omega), Array.getElem?_toList] at e
      exact e
    · obtain ⟨a, c, q, q1, q2, q3, q4⟩ := (h.each j (by rw [← h.len]; exact hj) hj).blk
      exact ⟨a, _, c, q, q1, q2, q3, q4⟩
theorem PRow.wo {w : World} {B g n : Nat} {d : List Pt.Po} {vs : List Value} (h : PRow w B g n d vs) (hn : n = d.length) : Wo w B w.heap.size g d.length vs := by
  obtain ⟨cur, hh, hcs, htake⟩ := h.blk
  refine ⟨h.base, blk_lt hh, ⟨cur, hh, by omega, fun j j1 j2 => ?_⟩, h.len, fun j hj => ?_⟩
  · have e := poV_v h.len j j2
    rw [← htake, List.getElem?_take_of_lt (by omega), Array.getElem?_toList] at e
    exact e
  · obtain ⟨a, c, q, q1, q2, q3, q4⟩ := (h.each j (by rw [← h.len]; exact hj) hj).1.blk
    exact ⟨a, _, c, q, q1, q2, q3, q4⟩
end Go.Proofs.Ytokdjaljeckghaa
