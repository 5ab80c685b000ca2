/-
  Three lists as postings, as the program makes them.
-/
import Derived.Test.YtokdjaljeckghaaPn
namespace Go.Proofs.Ytokdjaljeckghaa
open Go.RowKit
/-- A slice of numbers, nil or at a place. -/
def IntL (w : World) (v : Value) (l : List Int) : Prop := IntS w v l ∧ ((v = .slice none 0 0 ∧ l = []) ∨ ∃ g o c, v = .slice (some ⟨g, o, none⟩) l.length c)
theorem OwnI.intL {w : World} {B : Nat} {v : Value} {l : List Int} (h : OwnI w B v l) : IntL w v l := by
  refine ⟨h.intF.ints, ?_⟩
  rcases h.2 with ⟨h1, h2⟩ | ⟨g, cap, cur, rfl, _⟩
  · exact .inl ⟨h1, List.length_eq_zero_iff.1 h2⟩
  · exact .inr ⟨g, 0, cap, rfl⟩
theorem intL_nil (w : World) : IntL w (.slice none 0 0) [] := (OwnI.nil w 0).intL
theorem IntL.below {w w' : World} {v : Value} {l : List Int} (h : IntL w v l) (hb : Below w.heap.size w w') : IntL w' v l := ⟨h.1.below hb (Nat.le_refl _), h.2⟩
theorem IntS.fits {w : World} {a : Option Addr} {n c : Nat} {l : List Int} (h : IntS w (.slice a n c) l) : n = l.length ∧ l.length ≤ c ∧ c ≤ 9223372036854775807 := by
  obtain ⟨a', c', h1, h2, h3, _⟩ := h
  injection h1 with q1 q2 q3
  subst q3
  exact ⟨q2, h2, h3⟩
theorem IntS.take {w : World} {a : Option Addr} {n c : Nat} {l : List Int} (h : IntS w (.slice a n c) l) (m : Nat) (hm : m ≤ l.length) : IntS w (.slice a m c) (l.take m) := by
  obtain ⟨a', c', h1, h2, h3, h4⟩ := h
  injection h1 with q1 q2 q3
  subst q1 q3
  have hl : (l.take m).length = m := by rw [List.length_take]; omega
  refine ⟨a, c, by rw [hl], by omega, h3, fun h0 => ?_⟩
  obtain ⟨g, o, h5, h6, h7⟩ := h4 (by omega)
  exact ⟨g, o, h5, h6, fun j hj => by rw [h7 j (by omega), List.getElem_take]⟩
theorem IntS.drop {w : World} {g o n c : Nat} {l : List Int} (h : IntS w (.slice (some ⟨g, o, none⟩) n c) l) (m : Nat) (hm : m ≤ l.length) : IntL w (.slice (if c = m then some ⟨g, o, none⟩ else some ⟨g, o + m, none⟩) (n - m) (c - m)) (l.drop m) := by
  obtain ⟨a', c', h1, h2, h3, h4⟩ := h
  injection h1 with q1 q2 q3
  subst q1 q2 q3
  have hl : (l.drop m).length = l.length - m := List.length_drop
  by_cases hc : c = m
  · have e : l.drop m = [] := List.drop_of_length_le (by omega)
    rw [if_pos hc, e, show l.length - m = 0 by omega]
    exact ⟨⟨_, _, rfl, Nat.zero_le _, by omega, fun h => by simp at h⟩, .inr ⟨g, o, c - m, rfl⟩⟩
  · rw [if_neg hc, ← hl]
    refine ⟨⟨_, _, rfl, by omega, by omega, fun h0 => ?_⟩, .inr ⟨g, o + m, c - m, rfl⟩⟩
    obtain ⟨g', o', h5, h6, h7⟩ := h4 (by omega)
    cases h5
    refine ⟨g, o + m, rfl, h6, fun j hj => ?_⟩
    rw [List.getElem_drop, Nat.add_assoc]
    exact h7 (m + j) (by omega)
/-! ### rows that are being filled -/
/-- The first rows of a block of postings are these. -/
structure PRow (w : World) (B b n : Nat) (d : List Pt.Po) (vs : List Value) : Prop where
  base : B ≤ b
  blk : ∃ c : Array Value, w.heap[b]? = some (.cells c 40 (0, 0)) ∧ c.size = n * 2 ∧ c.toList.take (d.length * 2) = poV d vs
  room : d.length ≤ n
  len : vs.length = d.length
  each : ∀ j (_ : j < d.length) (_ : j < vs.length), OwnI w B vs[j] d[j].ats ∧ ∃ g, vs[j] = .slice (some ⟨g, 0, none⟩) d[j].ats.length d[j].ats.length
theorem PRow.at {w : World} {B b n : Nat} {d : List Pt.Po} {vs : List Value} (h : PRow w B b n d vs) (j : Nat) (hj : j < n * 2) : (∃ u, w.cell? ⟨b, j, none⟩ = some u) ∧ w.frozen? ⟨b, j, none⟩ = false := by
  obtain ⟨c, h1, h2, _⟩ := h.blk
  refine ⟨⟨c[j]'(by omega), ?_⟩, by simp [World.frozen?, h1]⟩
  simp [World.cell?, h1, show j < c.size by omega]
theorem PRow.keep {w w' : World} {B b n : Nat} {d : List Pt.Po} {vs : List Value} (h : PRow w B b n d vs) (e : ∀ k, k < w.heap.size → w'.heap[k]? = w.heap[k]?) : PRow w' B b n d vs := by
  obtain ⟨c, h1, h2, h3⟩ := h.blk
  exact ⟨h.base, ⟨c, (e b (blk_lt h1)).trans h1, h2, h3⟩, h.room, h.len, fun j j1 j2 => ⟨(h.each j j1 j2).1.keepB fun k hk => e k (World.ownsRow.lt (h.each j j1 j2).1 k hk).2, (h.each j j1 j2).2⟩⟩
theorem PRow.put {w : World} {B b n : Nat} {d : List Pt.Po} {vs : List Value} (h : PRow w B b n d vs) (hn : d.length < n) (x : Int) (g : Nat) (ats : List Int) (ho : OwnI w B (.slice (some ⟨g, 0, none⟩) ats.length ats.length) ats) :
    PRow ((w.setCell ⟨b, d.length * 2, none⟩ (.int .i64 x)).setCell ⟨b, d.length * 2 + 1, none⟩ (.slice (some ⟨g, 0, none⟩) ats.length ats.length)) B b n (d ++ [⟨x, ats⟩]) (vs ++ [.slice (some ⟨g, 0, none⟩) ats.length ats.length]) := by
  obtain ⟨c, h1, h2, h3⟩ := h.blk
  have hl := h.len
  have q1 := heap_set w b (d.length * 2) (.int .i64 x) c _ _ h1
  have q2 := heap_set _ b (d.length * 2 + 1) (.slice (some ⟨g, 0, none⟩) ats.length ats.length) _ _ _ q1
  have stay : ∀ u l, OwnI w B u l → OwnI ((w.setCell ⟨b, d.length * 2, none⟩ (.int .i64 x)).setCell ⟨b, d.length * 2 + 1, none⟩ (.slice (some ⟨g, 0, none⟩) ats.length ats.length)) B u l := fun u l hu => hu.keepB fun k hk => by
    have hne : k ≠ b := fun e => hu.far h1 (by decide) (e ▸ hk)
    rw [heap_other _ _ _ _ _ hne, heap_other _ _ _ _ _ hne]
  refine ⟨h.base, ⟨_, q2, by simp [h2], ?_⟩, by simp; omega, by simp [hl], fun j j1 j2 => ?_⟩
  · have hsz : d.length * 2 + 1 < c.size := by omega
    have hct : (c.toList.take (d.length * 2)).length = d.length * 2 := by
      have q : c.toList.length = c.size := Array.length_toList
      rw [List.length_take, q]
      omega
    rw [List.length_append, show (d.length + [(⟨x, ats⟩ : Pt.Po)].length) * 2 = d.length * 2 + 1 + 1 by simp; omega]
    rw [← poV_snoc hl ⟨x, ats⟩, ← h3]
    apply List.ext_getElem?
    intro i
    rw [List.getElem?_take, Array.getElem?_toList, Array.getElem?_setIfInBounds, Array.getElem?_setIfInBounds]
    rcases Nat.lt_trichotomy i (d.length * 2) with hi | hi | hi
    · rw [if_pos (by omega), if_neg (by omega), if_neg (by omega), List.getElem?_append_left (by rw [hct]; omega), List.getElem?_take, if_pos hi, Array.getElem?_toList]
    · subst hi
      rw [if_pos (by omega), if_neg (by omega), if_pos rfl, if_pos (by omega), List.getElem?_append_right (by rw [hct]; omega), hct, show d.length * 2 - d.length * 2 = 0 by omega]
      rfl
    · by_cases hi2 : i = d.length * 2 + 1
      · subst hi2
        rw [if_pos (by omega), if_pos rfl, if_pos (by simp; omega), List.getElem?_append_right (by rw [hct]; omega), hct, show d.length * 2 + 1 - d.length * 2 = 1 by omega]
        rfl
      · rw [if_neg (by omega), List.getElem?_append_right (by rw [hct]; omega), hct, show i - d.length * 2 = (i - d.length * 2 - 2) + 2 by omega]
        rfl
  · by_cases e : j < d.length
    · simp only [List.getElem_append_left e, List.getElem_append_left (show j < vs.length by omega)]
      exact ⟨stay _ _ (h.each j e (by omega)).1, (h.each j e (by omega)).2⟩
    · have e' : j = d.length := by simp at j1; omega
      subst e'
      have e3 : (vs ++ [Value.slice (some ⟨g, 0, none⟩) ats.length ats.length])[d.length]'j2 = .slice (some ⟨g, 0, none⟩) ats.length ats.length := by simp only [← hl, List.getElem_append_right (Nat.le_refl _), Nat.sub_self, List.getElem_cons_zero]
      rw [e3, List.getElem_append_right (Nat.le_refl _)]
      simp only [Nat.sub_self, List.getElem_cons_zero]
      exact ⟨stay _ _ ho, g, rfl⟩
/-- All rows filled. -/
theorem PRow.whole {w : World} {B b n : Nat} {d : List Pt.Po} {vs : List Value} (h : PRow w B b n d vs) (hn : d.length = n) (hm : n ≤ 1099511627776) : OwnP w B (.slice (some ⟨b, 0, none⟩) n n) d vs := by
  obtain ⟨c, h1, h2, h3⟩ := h.blk
  refine ⟨⟨poV_length h.len, .inr ⟨b, n, c, by rw [hn], h.base, h1, by omega, by unfold maxLen; omega, h2, h3⟩⟩, h.len, fun j j1 j2 => (h.each j j1 j2).1⟩
end Go.Proofs.Ytokdjaljeckghaa
