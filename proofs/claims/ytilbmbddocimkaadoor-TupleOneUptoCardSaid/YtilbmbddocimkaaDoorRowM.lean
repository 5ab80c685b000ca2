/-
  The order of rows of texts and numbers: the first items that are unlike decide; a row that is another one's beginning is less.
-/
import Derived.Test.YtilbmbddocimkaaDoorOrdW
namespace Go.Proofs.YtilbmbddocimkaaDoor.Rw
open Od

/-- The bytes of the first k items of a row. -/
def rowB (ss : List ByteArray) (xs : List Int) : Nat → List UInt8
  | 0 => []
  | k + 1 => rowB ss xs k ++ textB (ss.getD k ByteArray.empty).data.toList ++ Pl.numB (xs.getD k 0)
/-- How two items stand. -/
def ic (s t : ByteArray) (x y : Int) : Int := if cp s.data.toList t.data.toList = 0 then sg x y else cp s.data.toList t.data.toList
/-- How the first k items of two rows stand. -/
def wn (ss tt : List ByteArray) (xs ys : List Int) : Nat → Int
  | 0 => 0
  | k + 1 => if wn ss tt xs ys k = 0 then ic (ss.getD k ByteArray.empty) (tt.getD k ByteArray.empty) (xs.getD k 0) (ys.getD k 0) else wn ss tt xs ys k

theorem Dec.app {x y : List UInt8} {c : Int} (h : Dec x y c) (u v : List UInt8) : Dec (x ++ u) (y ++ v) c := fun r q => by
  rw [List.append_assoc, List.append_assoc]
  exact h _ _
theorem Dec.front {x y : List UInt8} {c : Int} (h : Dec x y c) (p : List UInt8) : Dec (p ++ x) (p ++ y) c := fun r q => by
  rw [List.append_assoc, List.append_assoc, cp_front]
  exact h _ _

def InI (xs : List Int) : Prop := ∀ n ∈ xs, -9223372036854775808 ≤ n ∧ n ≤ 9223372036854775807
theorem InI.get {xs : List Int} (h : InI xs) (k : Nat) : -9223372036854775808 ≤ xs.getD k 0 ∧ xs.getD k 0 ≤ 9223372036854775807 := by
  by_cases hk : k < xs.length
  · rw [List.getD, List.getElem?_eq_getElem hk]
    exact h _ (List.getElem_mem hk)
  · rw [List.getD, List.getElem?_eq_none (by omega)]
    simp

theorem sg_zero {x y : Int} (h : sg x y = 0) : x = y := by
  unfold sg at h
  split at h
  · omega
  · split at h <;> omega
theorem sg_self (x : Int) : sg x x = 0 := by
  unfold sg
  rw [if_neg (by omega), if_neg (by omega)]

/-- The first k items: alike, or decided. -/
theorem rows_dec (ss tt : List ByteArray) (xs ys : List Int) (hx : InI xs) (hy : InI ys) : ∀ k,
    (wn ss tt xs ys k = 0 → rowB ss xs k = rowB tt ys k) ∧ (wn ss tt xs ys k ≠ 0 → Dec (rowB ss xs k) (rowB tt ys k) (wn ss tt xs ys k)) := by
  intro k
  induction k with
  | zero => exact ⟨fun _ => rfl, fun h => absurd rfl h⟩
  | succ k ih =>
    simp only [wn, rowB]
    by_cases h0 : wn ss tt xs ys k = 0
    · rw [if_pos h0, ih.1 h0]
      unfold ic
      by_cases hc : cp (ss.getD k ByteArray.empty).data.toList (tt.getD k ByteArray.empty).data.toList = 0
      · rw [if_pos hc, cp_eq hc]
        constructor
        · intro h
          rw [sg_zero h]
        · intro h
          have hne : xs.getD k 0 ≠ ys.getD k 0 := fun e => h (by rw [e]; exact sg_self _)
          exact Dec.front (num_sg (hx.get k).1 (hx.get k).2 (hy.get k).1 (hy.get k).2 hne) _
      · rw [if_neg hc]
        refine ⟨fun h => absurd h hc, fun _ => ?_⟩
        have hne : (ss.getD k ByteArray.empty).data.toList ≠ (tt.getD k ByteArray.empty).data.toList := fun e => hc (by rw [e]; exact cp_self _)
        exact Dec.app (Dec.front (text_dec _ _ hne) _) _ _
    · rw [if_neg h0]
      refine ⟨fun h => absurd h h0, fun _ => ?_⟩
      rw [List.append_assoc, List.append_assoc]
      exact Dec.app (ih.2 h0) _ _

theorem rowB_more (ss : List ByteArray) (xs : List Int) (a : Nat) : ∀ d, ∃ r, rowB ss xs (a + d) = rowB ss xs a ++ r ∧ (0 < d → r ≠ []) := by
  intro d
  induction d with
  | zero => exact ⟨[], by simp, fun h => by omega⟩
  | succ d ih =>
    obtain ⟨r, h1, _⟩ := ih
    refine ⟨r ++ textB (ss.getD (a + d) ByteArray.empty).data.toList ++ Pl.numB (xs.getD (a + d) 0), ?_, fun _ h => ?_⟩
    · show rowB ss xs (a + d) ++ _ ++ _ = _
      rw [h1]
      simp
    · have := congrArg List.length h
      simp [textB] at this

/-- How two whole rows stand. -/
def fin (ss tt : List ByteArray) (xs ys : List Int) (a b : Nat) : Int :=
  if wn ss tt xs ys (min a b) = 0 then (if a = b then 0 else if a < b then -1 else 1) else wn ss tt xs ys (min a b)
theorem nil_less (r : List UInt8) (h : r ≠ []) : cp [] r = -1 := by
  cases r with
  | nil => exact absurd rfl h
  | cons c r => rfl
theorem rows_cp (ss tt : List ByteArray) (xs ys : List Int) (hx : InI xs) (hy : InI ys) (a b : Nat) : cp (rowB ss xs a) (rowB tt ys b) = fin ss tt xs ys a b := by
  obtain ⟨h1, h2⟩ := rows_dec ss tt xs ys hx hy (min a b)
  obtain ⟨r, hr, hr0⟩ := rowB_more ss xs (min a b) (a - min a b)
  obtain ⟨q, hq, hq0⟩ := rowB_more tt ys (min a b) (b - min a b)
  rw [show min a b + (a - min a b) = a from by omega] at hr
  rw [show min a b + (b - min a b) = b from by omega] at hq
  unfold fin
  by_cases h0 : wn ss tt xs ys (min a b) = 0
  · rw [if_pos h0, hr, hq, h1 h0, cp_front]
    by_cases he : a = b
    · subst he
      rw [if_pos rfl]
      have e1 : r = [] := by
        have := congrArg List.length hr
        simp at this
        exact this
      have e2 : q = [] := by
        have := congrArg List.length hq
        simp at this
        exact this
      rw [e1, e2]
      rfl
    · rw [if_neg he]
      by_cases hl : a < b
      · rw [if_pos hl]
        have e1 : r = [] := by
          have : min a b = a := by omega
          rw [this] at hr
          have := congrArg List.length hr
          simp at this
          exact this
        rw [e1]
        exact nil_less q (hq0 (by omega))
      · rw [if_neg hl]
        have e1 : q = [] := by
          have : min a b = b := by omega
          rw [this] at hq
          have := congrArg List.length hq
          simp at this
          exact this
        rw [e1, cp_neg, nil_less r (hr0 (by omega))]
        decide
  · rw [if_neg h0, hr, hq]
    exact h2 h0 r q
theorem rowB_size (ss : List ByteArray) (xs : List Int) (h : ∀ k, (ss.getD k ByteArray.empty).size ≤ 1048576) : ∀ k, (rowB ss xs k).length ≤ 2097163 * k := by
  intro k
  induction k with
  | zero => simp [rowB]
  | succ k ih =>
    simp only [rowB]
    rw [List.length_append, List.length_append]
    have h1 := numB_length (xs.getD k 0)
    have h2 := esc_length (ss.getD k ByteArray.empty).data.toList
    have h3 := h k
    have e : (ss.getD k ByteArray.empty).data.toList.length = (ss.getD k ByteArray.empty).size := by simp
    unfold textB
    rw [List.length_append]
    simp only [List.length_cons, List.length_nil]
    omega
end Go.Proofs.YtilbmbddocimkaaDoor.Rw
