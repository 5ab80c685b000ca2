/-
  Terms at their places, told one by one.
-/
import Derived.Test.YtedloedfbegbkaaDoorTa
namespace Go.Proofs.YtedloedfbegbkaaDoor
open Go.RowKit

/-- The terms of a list, each at its place, in memory that stays. -/
theorem OwnT.each {w : World} {B : Nat} {v : Value} {X : List (List UInt8)} (h : OwnT w B v (Ut.toks X)) : ∃ g a cap, v = .slice a X.length cap ∧ X.length ≤ cap ∧ cap ≤ 9223372036854775807 ∧ (0 < X.length → a = some ⟨g, 0, none⟩) ∧ B ≤ g ∧
    ∀ W, Below w.heap.size w W → ∀ i (_ : i < X.length), W.cell? ⟨g, i * 2, none⟩ = some (.string ⟨X[i].toArray⟩) ∧ W.cell? ⟨g, i * 2 + 1, none⟩ = some (.int .i64 (i : Int)) := by
  obtain ⟨g, a, cap, h1, h2, h3, h4, h5, h6⟩ := h.opened
  rw [Ut.toks_length] at h1 h2
  refine ⟨g, a, cap, h1, h2, h3, fun h0 => (h4 (by rw [Ut.toks_length]; exact h0)).1, h5, fun W hb i hi => ?_⟩
  have hi' : i < (Ut.toks X).length := by rw [Ut.toks_length]; exact hi
  have hg := (h4 (by omega)).2
  obtain ⟨c1, c2, _⟩ := h6 i hi'
  rw [Ut.toks_at X i hi' hi] at c1 c2
  exact ⟨(hb.cell (p := ⟨g, i * 2, none⟩) hg).trans c1, (hb.cell (p := ⟨g, i * 2 + 1, none⟩) hg).trans c2⟩
end Go.Proofs.YtedloedfbegbkaaDoor
