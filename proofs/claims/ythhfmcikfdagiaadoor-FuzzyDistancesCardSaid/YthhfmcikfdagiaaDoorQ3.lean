/-
  Lemmas on automata, the program's calls and the given ones, put together of 13 texts (part 3).
-/
import Derived.Test.YthhfmcikfdagiaaDoorQ2
import Derived.Deep.DrawnRows
import Derived.Lib.BitFns
import Derived.Laws.BitsAllLaws
import Derived.RegionTactic
import Derived.Lib.SliceRun
import Derived.Laws.BitsLemmas
import Derived.WalkKit
import Derived.WalkSpells
import Derived.WalkLawsBesides
import Derived.IntWalk
import Derived.Lib.Hide
import Derived.OwnWalk
import Derived.Laws.IdiomStrings
import Derived.Deep.LoopGhost
import Derived.Deep.OwnRows
import Derived.Lib.Strings
import Derived.BigQuiet
import Derived.Laws.AppendOwnNone
import Derived.Test.YthhfmcikfdagiaaDoorQ1
import Derived.Lib.OthersKept
/-
  Slices of slices of arcs, of stretches, wherever they lie; where stretches begin.
-/
namespace Go.Proofs.YthhfmcikfdagiaaDoor
open Go.RowKit

/-- The value v is a slice of slices of arcs, all of it in blocks of F. -/
def RowsS (F : Nat → Prop) (w : World) (v : Value) (L : List (List Au.Arc)) : Prop :=
  ∃ a cap, v = .slice a L.length cap ∧ L.length ≤ cap ∧ cap ≤ 9223372036854775807 ∧ (0 < L.length → ∃ g o, a = some ⟨g, o, none⟩ ∧ g < w.heap.size ∧ F g ∧
    ∀ j (_ : j < L.length), ∃ va, w.cell? ⟨g, o + j, none⟩ = some va ∧ ArcS F w va L[j])
theorem RowsS.keep {F : Nat → Prop} {w w' : World} {v : Value} {L : List (List Au.Arc)} (h : RowsS F w v L) (hs : w.heap.size ≤ w'.heap.size) (e : ∀ g, F g → g < w.heap.size → w'.heap[g]? = w.heap[g]?) : RowsS F w' v L := by
  obtain ⟨a, cap, h1, h2, h3, h4⟩ := h
  refine ⟨a, cap, h1, h2, h3, fun h0 => ?_⟩
  obtain ⟨g, o, h5, h6, h7, h8⟩ := h4 h0
  have hb := e g h7 h6
  refine ⟨g, o, h5, Nat.lt_of_lt_of_le h6 hs, h7, fun j hj => ?_⟩
  obtain ⟨va, a2, a3⟩ := h8 j hj
  exact ⟨va, (cell_same hb).trans a2, a3.keep hs e⟩
theorem RowsS.below {F : Nat → Prop} {w w' : World} {v : Value} {L : List (List Au.Arc)} (h : RowsS F w v L) (hb : Below w.heap.size w w') : RowsS F w' v L := h.keep hb.size fun g _ hg => hb.block g hg
theorem RowsS.wide {F G : Nat → Prop} {w : World} {v : Value} {L : List (List Au.Arc)} (h : RowsS F w v L) (hm : ∀ g, g < w.heap.size → F g → G g) : RowsS G w v L := by
  obtain ⟨a, cap, h1, h2, h3, h4⟩ := h
  refine ⟨a, cap, h1, h2, h3, fun h0 => ?_⟩
  obtain ⟨g, o, h5, h6, h7, h8⟩ := h4 h0
  refine ⟨g, o, h5, h6, hm g h6 h7, fun j hj => ?_⟩
  obtain ⟨va, a2, a3⟩ := h8 j hj
  exact ⟨va, a2, a3.wide hm⟩
/-- The value v is a slice of stretches. -/
def StrS (F : Nat → Prop) (w : World) (v : Value) (L : List Au.Strch) : Prop :=
  ∃ a cap, v = .slice a L.length cap ∧ L.length ≤ cap ∧ cap ≤ 9223372036854775807 ∧ (0 < L.length → ∃ g o, a = some ⟨g, o, none⟩ ∧ g < w.heap.size ∧ F g ∧
    ∀ j (_ : j < L.length), w.cell? ⟨g, o + j * 3, none⟩ = some (.int .i64 (L[j].lo : Int)) ∧ w.cell? ⟨g, o + j * 3 + 1, none⟩ = some (.int .i64 (L[j].hi : Int)) ∧ ∃ vt, w.cell? ⟨g, o + j * 3 + 2, none⟩ = some vt ∧ NumS F w vt L[j].to)
theorem StrS.keep {F : Nat → Prop} {w w' : World} {v : Value} {L : List Au.Strch} (h : StrS F w v L) (hs : w.heap.size ≤ w'.heap.size) (e : ∀ g, F g → g < w.heap.size → w'.heap[g]? = w.heap[g]?) : StrS F w' v L := by
  obtain ⟨a, cap, h1, h2, h3, h4⟩ := h
  refine ⟨a, cap, h1, h2, h3, fun h0 => ?_⟩
  obtain ⟨g, o, h5, h6, h7, h8⟩ := h4 h0
  have hb := e g h7 h6
  refine ⟨g, o, h5, Nat.lt_of_lt_of_le h6 hs, h7, fun j hj => ?_⟩
  obtain ⟨b1, b2, va, a2, a3⟩ := h8 j hj
  exact ⟨(cell_same hb).trans b1, (cell_same hb).trans b2, va, (cell_same hb).trans a2, a3.keep hs e⟩
theorem NumS.wide {F G : Nat → Prop} {w : World} {v : Value} {l : List Int} (h : NumS F w v l) (hm : ∀ g, g < w.heap.size → F g → G g) : NumS G w v l := by
  obtain ⟨a, cap, h1, h2, h3, h4⟩ := h
  refine ⟨a, cap, h1, h2, h3, fun h0 => ?_⟩
  obtain ⟨g, o, h5, h6, h7, h8⟩ := h4 h0
  exact ⟨g, o, h5, h6, hm g h6 h7, h8⟩

namespace Au
/-- Does a stretch begin at a byte? -/
def marks (A : List Arc) (x : Nat) : Bool := A.any (fun a => decide (a.lo = (x : Int)) || decide (a.hi + 1 = (x : Int)))
theorem marks_snoc (A : List Arc) (a : Arc) (x : Nat) : marks (A ++ [a]) x = (marks A x || (decide (a.lo = (x : Int)) || decide (a.hi + 1 = (x : Int)))) := by
  unfold marks
  rw [List.any_append]
  simp
theorem marks_lo {A : List Arc} {a : Arc} (h : a ∈ A) (h0 : 0 ≤ a.lo) : marks A a.lo.toNat = true := by
  unfold marks
  rw [List.any_eq_true]
  refine ⟨a, h, ?_⟩
  have : a.lo = ((a.lo.toNat : Nat) : Int) := by omega
  simp only [Bool.or_eq_true, decide_eq_true_eq]
  exact .inl this
theorem marks_hi {A : List Arc} {a : Arc} (h : a ∈ A) (h0 : 0 ≤ a.hi) : marks A (a.hi.toNat + 1) = true := by
  unfold marks
  rw [List.any_eq_true]
  refine ⟨a, h, ?_⟩
  have : a.hi + 1 = ((a.hi.toNat + 1 : Nat) : Int) := by omega
  simp only [Bool.or_eq_true, decide_eq_true_eq]
  exact .inr this
/-- An arc of bytes. -/
def byteArc (a : Arc) : Prop := 0 ≤ a.lo ∧ a.lo ≤ a.hi ∧ a.hi ≤ 255
end Au
theorem zero257 : Tryd.zeroCells105 = Array.replicate 257 (.bool false) := by kernel_rfl
theorem zero256 : Tryd.zeroCells106 = Array.replicate 256 (.int .i64 0) := by kernel_rfl
theorem row_repl (w : World) (n : Nat) (u : Value) (t : TypeId) : (w.alloc (.cells (Array.replicate n u) t)).rowIs w.heap.size t n (fun _ => u) := by
  refine ⟨Array.replicate n u, Go.Deep.blk_alloc_new _ _, by simp, fun i hi => ?_⟩
  simp [hi]
end Go.Proofs.YthhfmcikfdagiaaDoor

/-
  All classes split by the states that lead into one, plainly.
-/
namespace Go.Proofs.YthhfmcikfdagiaaDoor
namespace Au
theorem full_of {l m : List Nat} (hl : l.Nodup) (hs : l ⊆ m) (hm : m.length ≤ l.length) : ∀ x ∈ m, x ∈ l := by
  intro x hx
  apply Classical.byContradiction
  intro hn
  have h1 : (x :: l).Nodup := List.nodup_cons.2 ⟨hn, hl⟩
  have h2 : x :: l ⊆ m := fun y hy => by
    rcases List.mem_cons.1 hy with rfl | hy
    · exact hx
    · exact hs hy
  have := h1.length_le_of_subset h2
  rw [List.length_cons] at this
  omega
def cl (C : Cls) (s : Nat) : Nat := (C.of s).toNat
/-- The states among some that are in a class of more than one. -/
def inside (C : Cls) (l : List Nat) (c : Nat) : List Nat := l.filter (fun s => decide (cl C s = c ∧ (C.row c).length ≠ 1))
def orderStep (C : Cls) (o : List Nat) (s : Nat) : List Nat := if (C.row (cl C s)).length = 1 then o else if cl C s ∈ o then o else o ++ [cl C s]
/-- The classes of these, as they are met. -/
def order (C : Cls) (l : List Nat) : List Nat := l.foldl (orderStep C) []
theorem inside_snoc (C : Cls) (l : List Nat) (s c : Nat) : inside C (l ++ [s]) c = if cl C s = c ∧ (C.row c).length ≠ 1 then inside C l c ++ [s] else inside C l c := by
  unfold inside
  rw [List.filter_append]
  by_cases h : cl C s = c ∧ (C.row c).length ≠ 1
  · rw [if_pos h]
    have : [s].filter (fun s => decide (cl C s = c ∧ (C.row c).length ≠ 1)) = [s] := by
      rw [List.filter_cons, if_pos (decide_eq_true h)]
      rfl
    rw [this]
  · rw [if_neg h]
    have : [s].filter (fun s => decide (cl C s = c ∧ (C.row c).length ≠ 1)) = [] := by
      rw [List.filter_cons, if_neg (by simpa using h)]
      rfl
    rw [this, List.append_nil]
theorem order_snoc (C : Cls) (l : List Nat) (s : Nat) : order C (l ++ [s]) = orderStep C (order C l) s := by
  unfold order
  rw [List.foldl_append]
  rfl
theorem rev_ind {α : Type} {P : List α → Prop} (h0 : P []) (h1 : ∀ l x, P l → P (l ++ [x])) (l : List α) : P l := by
  have : ∀ n, ∀ l : List α, l.length = n → P l := by
    intro n
    induction n with
    | zero => intro l hl; rw [List.length_eq_zero_iff.1 hl]; exact h0
    | succ n ih =>
      intro l hl
      have hne : l ≠ [] := fun e => by rw [e] at hl; cases hl
      rw [← List.dropLast_concat_getLast hne]
      exact h1 _ _ (ih _ (by rw [List.length_dropLast]; omega))
  exact this _ l rfl
theorem order_iff (C : Cls) (l : List Nat) (c : Nat) : c ∈ order C l ↔ inside C l c ≠ [] := by
  induction l using rev_ind with
  | h0 => simp [order, inside]
  | h1 l s ih =>
    rw [order_snoc, inside_snoc]
    unfold orderStep
    by_cases h1 : (C.row (cl C s)).length = 1
    · rw [if_pos h1, ih]
      have : ¬ (cl C s = c ∧ (C.row c).length ≠ 1) := fun ⟨e, h⟩ => h (e ▸ h1)
      rw [if_neg this]
    · rw [if_neg h1]
      by_cases e : cl C s = c
      · subst e
        have e2 : (if cl C s = cl C s ∧ (C.row (cl C s)).length ≠ 1 then inside C l (cl C s) ++ [s] else inside C l (cl C s)) = inside C l (cl C s) ++ [s] := if_pos ⟨rfl, h1⟩
        rw [e2]
        constructor
        · intro _ h
          simp at h
        · intro _
          by_cases h2 : cl C s ∈ order C l
          · rw [if_pos h2]; exact h2
          · rw [if_neg h2]; simp
      · have e2 : (if cl C s = c ∧ (C.row c).length ≠ 1 then inside C l c ++ [s] else inside C l c) = inside C l c := if_neg fun ⟨h, _⟩ => e h
        rw [e2, ← ih]
        by_cases h2 : cl C s ∈ order C l
        · rw [if_pos h2]
        · rw [if_neg h2, List.mem_append]
          constructor
          · rintro (h | h)
            · exact h
            · exact absurd (List.mem_singleton.1 h).symm e
          · exact .inl
theorem order_nodup (C : Cls) (l : List Nat) : (order C l).Nodup := by
  induction l using rev_ind with
  | h0 => simp [order]
  | h1 l s ih =>
    rw [order_snoc]
    unfold orderStep
    split
    · exact ih
    · split
      · exact ih
      · rename_i h
        unfold List.Nodup at *
        rw [List.pairwise_append]
        exact ⟨ih, by simp, fun x hx y hy e => by simp at hy; subst hy; exact h (e ▸ hx)⟩
theorem mem_inside (C : Cls) (l : List Nat) (c s : Nat) : s ∈ inside C l c ↔ s ∈ l ∧ cl C s = c ∧ (C.row c).length ≠ 1 := by
  unfold inside
  rw [List.mem_filter, decide_eq_true_iff]
def splitC (C0 : Cls) (l : List Nat) (C : Cls) (c : Nat) : Cls := if (inside C0 l c).length < (C.row c).length then C.split c (inside C0 l c) else C
def splitBy (C : Cls) (l : List Nat) : Cls := (order C l).foldl (splitC C l) C

/-- What holds while the classes of D have been looked at. -/
structure SB (d : List St) (O : Option Nat → Prop) (R : Nat → Prop) (l : List Nat) (C : Cls) (D : List Nat) (C' : Cls) : Prop where
  inv : HInv d O R C'
  mem : C.mem.length ≤ C'.mem.length
  ref : ∀ s, s < d.length → C'.of s = C.of s ∨ ((C.mem.length : Int) ≤ C'.of s ∧ ∃ c ∈ D, C.of s = (c : Int))
  row : ∀ c, c < C.mem.length → c ∉ D → C'.row c = C.row c
  same : ∀ s t, s < d.length → t < d.length → C'.of s = C'.of t → C.of s = C.of t
  done : ∀ s t, s < d.length → t < d.length → C'.of s = C'.of t → (∃ c ∈ D, C.of s = (c : Int)) → (s ∈ l ↔ t ∈ l)
  wq : C'.wq.length + C.mem.length = C.wq.length + C'.mem.length
theorem SB.start {d : List St} {O : Option Nat → Prop} {R : Nat → Prop} {C : Cls} (h : HInv d O R C) (l : List Nat) : SB d O R l C [] C :=
  ⟨h, Nat.le_refl _, fun _ _ => .inl rfl, fun _ _ _ => rfl, fun _ _ _ _ e => e, (fun _ _ _ _ _ ⟨_, h, _⟩ => absurd h (by simp)), rfl⟩
theorem of_cl {C : Cls} {s : Nat} (h : 0 ≤ C.of s) (c : Nat) : cl C s = c ↔ C.of s = (c : Int) := by
  unfold cl
  omega
theorem SB.next {d : List St} {O : Option Nat → Prop} {R : Nat → Prop} {C C' : Cls} {l D : List Nat} (h : SB d O R l C D C') (h0 : HInv d O R C) (hl : l.Nodup) (hlt : ∀ s ∈ l, s < d.length ∧ 0 ≤ C.of s)
    (hX : ∀ s t, s < d.length → t < d.length → Eqv (ofL d) (ofL d) s t → (s ∈ l ↔ t ∈ l)) (c : Nat) (hc : c ∈ order C l) (hD : c ∉ D) : SB d O R l C (D ++ [c]) (splitC C l C' c) := by
  have hne := (order_iff C l c).1 hc
  obtain ⟨s0, hs0⟩ := List.exists_mem_of_ne_nil _ hne
  obtain ⟨hs1, hs2, hs3⟩ := (mem_inside C l c s0).1 hs0
  have hcl : c < C.mem.length := by
    obtain ⟨h1, h2⟩ := hlt s0 hs1
    have h3 := (of_cl h2 c).1 hs2
    rcases h0.lt h1 with h4 | h4 <;> omega
  have hrow := h.row c hcl hD
  have hof : ∀ s, s < d.length → (C'.of s = (c : Int) ↔ C.of s = (c : Int)) := by
    intro s hs
    rcases h.ref s hs with e | ⟨e, c', hc', e2⟩
    · rw [e]
    · constructor
      · intro k; omega
      · intro k
        have : c' = c := by omega
        exact absurd (this ▸ hc') hD
  have hmem : ∀ s, s ∈ inside C l c ↔ s < d.length ∧ C'.of s = (c : Int) ∧ s ∈ l := by
    intro s
    rw [mem_inside]
    constructor
    · rintro ⟨h1, h2, _⟩
      obtain ⟨h3, h4⟩ := hlt s h1
      exact ⟨h3, (hof s h3).2 ((of_cl h4 c).1 h2), h1⟩
    · rintro ⟨h1, h2, h3⟩
      exact ⟨h3, (of_cl (hlt s h3).2 c).2 ((hof s h1).1 h2), hs3⟩
  have hnod : (inside C l c).Nodup := hl.sublist List.filter_sublist
  have hpos : 0 < (inside C l c).length := List.length_pos_iff.2 hne
  unfold splitC
  by_cases hlt2 : (inside C l c).length < (C'.row c).length
  · rw [if_pos hlt2]
    obtain ⟨k1, k2, k3⟩ := h.inv.split (fun s => s ∈ l) hX c (inside C l c) hnod hmem hpos hlt2
    obtain ⟨_, _, _, g4, _, g6, _, g8, g9⟩ := split_ok h.inv.ok h.inv.wait c (inside C l c) hnod (fun s hs => ⟨((hmem s).1 hs).1, ((hmem s).1 hs).2.1⟩) hpos
    refine ⟨k1, by have := h.mem; omega, fun s hs => ?_, fun c' hc' hD' => ?_, fun s t hs ht e => ?_, fun s t hs ht e hk => ?_, by have := h.wq; omega⟩
    · rw [g4 s]
      split
      · rename_i hin
        exact .inr ⟨by have := h.mem; omega, c, by simp, (hof s hs).1 ((hmem s).1 hin).2.1⟩
      · rcases h.ref s hs with e | ⟨e, c', hc', e2⟩
        · exact .inl e
        · exact .inr ⟨e, c', by simp [hc'], e2⟩
    · have hne2 : c' ≠ c := fun e => hD' (by simp [e])
      rw [g6 c', if_neg (by have := h.mem; omega), g8 c' hne2]
      exact h.row c' hc' fun e => hD' (by simp [e])
    · refine h.same s t hs ht ?_
      rw [g4 s, g4 t] at e
      have hlen : ∀ s, s < d.length → C'.of s ≠ (C'.mem.length : Int) := fun s hs => by rcases h.inv.lt hs with h4 | h4 <;> omega
      by_cases i1 : s ∈ inside C l c
      · by_cases i2 : t ∈ inside C l c
        · rw [((hmem s).1 i1).2.1, ((hmem t).1 i2).2.1]
        · rw [if_pos i1, if_neg i2] at e
          exact absurd e.symm (hlen t ht)
      · by_cases i2 : t ∈ inside C l c
        · rw [if_neg i1, if_pos i2] at e
          exact absurd e (hlen s hs)
        · rwa [if_neg i1, if_neg i2] at e
    · rw [g4 s, g4 t] at e
      have hlen : ∀ s, s < d.length → C'.of s ≠ (C'.mem.length : Int) := fun s hs => by rcases h.inv.lt hs with h4 | h4 <;> omega
      by_cases i1 : s ∈ inside C l c
      · by_cases i2 : t ∈ inside C l c
        · exact ⟨fun _ => ((hmem t).1 i2).2.2, fun _ => ((hmem s).1 i1).2.2⟩
        · rw [if_pos i1, if_neg i2] at e
          exact absurd e.symm (hlen t ht)
      · by_cases i2 : t ∈ inside C l c
        · rw [if_neg i1, if_pos i2] at e
          exact absurd e (hlen s hs)
        · rw [if_neg i1, if_neg i2] at e
          obtain ⟨c', hc', e2⟩ := hk
          rcases List.mem_append.1 hc' with hc' | hc'
          · exact h.done s t hs ht e ⟨c', hc', e2⟩
          · simp at hc'
            subst hc'
            have e3 := (hof s hs).2 e2
            have e4 : C'.of t = (c' : Int) := by rw [← e]; exact e3
            exact ⟨fun k => absurd ((hmem s).2 ⟨hs, e3, k⟩) i1, fun k => absurd ((hmem t).2 ⟨ht, e4, k⟩) i2⟩
  · rw [if_neg hlt2]
    refine ⟨h.inv, h.mem, fun s hs => ?_, fun c' hc' hD' => h.row c' hc' fun e => hD' (by simp [e]), h.same, fun s t hs ht e hk => ?_, h.wq⟩
    · rcases h.ref s hs with e | ⟨e, c', hc', e2⟩
      · exact .inl e
      · exact .inr ⟨e, c', by simp [hc'], e2⟩
    · obtain ⟨c', hc', e2⟩ := hk
      rcases List.mem_append.1 hc' with hc' | hc'
      · exact h.done s t hs ht e ⟨c', hc', e2⟩
      · simp at hc'
        subst hc'
        have e3 := (hof s hs).2 e2
        have e4 : C'.of t = (c' : Int) := by rw [← e]; exact e3
        have hfull := full_of hnod (fun s hs => h.inv.ok.row_mem ((hmem s).1 hs).1 ((hmem s).1 hs).2.1) (Nat.le_of_not_lt hlt2)
        exact ⟨fun _ => ((hmem t).1 (hfull t (h.inv.ok.row_mem ht e4))).2.2, fun _ => ((hmem s).1 (hfull s (h.inv.ok.row_mem hs e3))).2.2⟩
/-- All of the order. -/
theorem SB.upTo {d : List St} {O : Option Nat → Prop} {R : Nat → Prop} {C : Cls} {l : List Nat} (h0 : HInv d O R C) (hl : l.Nodup) (hlt : ∀ s ∈ l, s < d.length ∧ 0 ≤ C.of s)
    (hX : ∀ s t, s < d.length → t < d.length → Eqv (ofL d) (ofL d) s t → (s ∈ l ↔ t ∈ l)) (k : Nat) (hk : k ≤ (order C l).length) : SB d O R l C ((order C l).take k) (((order C l).take k).foldl (splitC C l) C) := by
  induction k with
  | zero => exact SB.start h0 l
  | succ k ih =>
    have hk' : k < (order C l).length := by omega
    rw [List.take_succ_eq_append_getElem hk', List.foldl_append]
    refine (ih (by omega)).next h0 hl hlt hX _ (List.getElem_mem hk') ?_
    intro hm
    obtain ⟨j, hj, e⟩ := List.getElem_of_mem hm
    rw [List.length_take] at hj
    rw [List.getElem_take] at e
    have := (List.nodup_iff_pairwise_ne.1 (order_nodup C l))
    have := List.pairwise_iff_getElem.1 this j k (by omega) hk' (by omega)
    exact this e
theorem HInv.splitBy {d : List St} {O : Option Nat → Prop} {R : Nat → Prop} {C : Cls} {l : List Nat} (h : HInv d O R C) (hl : l.Nodup) (hlt : ∀ s ∈ l, s < d.length ∧ 0 ≤ C.of s)
    (hX : ∀ s t, s < d.length → t < d.length → Eqv (ofL d) (ofL d) s t → (s ∈ l ↔ t ∈ l)) :
    HInv d O R (Au.splitBy C l) ∧ (Au.splitBy C l).wq.length + C.mem.length = C.wq.length + (Au.splitBy C l).mem.length ∧
    ∀ s t, s < d.length → t < d.length → (Au.splitBy C l).of s = (Au.splitBy C l).of t → 0 ≤ (Au.splitBy C l).of s → (s ∈ l ↔ t ∈ l) := by
  have k := SB.upTo h hl hlt hX (order C l).length (Nat.le_refl _)
  rw [List.take_of_length_le (Nat.le_refl _)] at k
  refine ⟨k.inv, k.wq, fun s t hs ht e h1 => ?_⟩
  have e0 := k.same s t hs ht e
  have hp : 0 ≤ C.of s := by
    rcases k.ref s hs with e2 | ⟨_, c, _, e2⟩
    · change 0 ≤ (((order C l).foldl (splitC C l) C)).of s at h1
      omega
    · omega
  by_cases hc : cl C s ∈ order C l
  · exact k.done s t hs ht e ⟨_, hc, (of_cl hp _).1 rfl⟩
  · rw [order_iff] at hc
    have hc : inside C l (cl C s) = [] := Classical.not_not.1 hc
    have hm := mem_inside C l (cl C s)
    rw [hc] at hm
    have e1 : cl C t = cl C s := by unfold cl; rw [e0]
    by_cases h1 : (C.row (cl C s)).length = 1
    · have r1 := h.ok.row_mem hs ((of_cl hp _).1 rfl)
      have r2 := h.ok.row_mem ht (show C.of t = (cl C s : Int) by rw [← e0]; exact (of_cl hp _).1 rfl)
      obtain ⟨x, hx⟩ := List.length_eq_one_iff.1 h1
      rw [hx, List.mem_singleton] at r1 r2
      rw [r1, r2]
    · exact ⟨fun k => absurd ((hm s).2 ⟨k, rfl, h1⟩) (by simp), fun k => absurd ((hm t).2 ⟨k, e1, h1⟩) (by simp)⟩
end Au
end Go.Proofs.YthhfmcikfdagiaaDoor

/-
  The plain mathematics of numbers and texts as bytes: widths, big-endian bytes, and what is read back; no program is named here.
-/
namespace Go.Proofs.YthhfmcikfdagiaaDoor.Pl

/-- How many bytes a number needs, at least one. -/
def wid (m : Nat) : Nat :=
  if m < 256 then 1 else if m < 65536 then 2 else if m < 16777216 then 3 else if m < 4294967296 then 4
  else if m < 1099511627776 then 5 else if m < 281474976710656 then 6 else if m < 72057594037927936 then 7 else 8

theorem wid_le (m : Nat) : 1 ≤ wid m ∧ wid m ≤ 8 := by
  unfold wid
  repeat' split
  all_goals omega

theorem bitLenAux_iff : ∀ (f x k : Nat), k < f → (Go.Lib.bitLenAux f x ≤ k ↔ x < 2 ^ k) := by
  intro f
  induction f with
  | zero => intro x k h; omega
  | succ f ih =>
    intro x k h
    unfold Go.Lib.bitLenAux
    split
    · rename_i hx
      subst hx
      exact ⟨fun _ => Nat.two_pow_pos k, fun _ => Nat.zero_le _⟩
    · rename_i hx
      cases k with
      | zero => simp; omega
      | succ k =>
        have := ih (x / 2) k (by omega)
        rw [Nat.pow_succ]
        omega
theorem bitLen_le (x : Nat) : Go.Lib.bitLen x ≤ 64 := by
  have : ∀ f x, Go.Lib.bitLenAux f x ≤ f := by
    intro f
    induction f with
    | zero => intro x; exact Nat.le_refl _
    | succ f ih =>
      intro x
      unfold Go.Lib.bitLenAux
      split
      · omega
      · have := ih (x / 2); omega
  exact this 64 x
/-- The width by the length in bits. -/
theorem wid_bitLen (m : Nat) : Nat.max 1 ((Go.Lib.bitLen m + 7) / 8) = wid m := by
  have h1 := bitLenAux_iff 64 m 8 (by omega)
  have h2 := bitLenAux_iff 64 m 16 (by omega)
  have h3 := bitLenAux_iff 64 m 24 (by omega)
  have h4 := bitLenAux_iff 64 m 32 (by omega)
  have h5 := bitLenAux_iff 64 m 40 (by omega)
  have h6 := bitLenAux_iff 64 m 48 (by omega)
  have h7 := bitLenAux_iff 64 m 56 (by omega)
  have h9 := bitLen_le m
  change (Go.Lib.bitLen m ≤ _ ↔ _) at h1 h2 h3 h4 h5 h6 h7
  simp only [Nat.reducePow] at h1 h2 h3 h4 h5 h6 h7
  generalize Go.Lib.bitLen m = b at *
  unfold wid
  simp only [Nat.max_def]
  repeat' split
  all_goals omega

/-- The value of bytes, the highest first, each turned by f. -/
def val (f : Nat) : List UInt8 → Nat → Nat
  | [], m => m
  | b :: t, m => val f t (256 * m + (b.toNat ^^^ f))

theorem val_append (f : Nat) (l r : List UInt8) (m : Nat) : val f (l ++ r) m = val f r (val f l m) := by
  induction l generalizing m with
  | nil => rfl
  | cons b t ih => exact ih _
theorem val_snoc (f : Nat) (l : List UInt8) (b : UInt8) (m : Nat) : val f (l ++ [b]) m = 256 * val f l m + (b.toNat ^^^ f) := by
  rw [val_append]; rfl
theorem xor_lt (b : UInt8) (f : Nat) (hf : f < 256) : b.toNat ^^^ f < 256 := by
  have h := b.toNat_lt
  exact Nat.xor_lt_two_pow (n := 8) (by simpa using h) (by simpa using hf)
theorem val_lt (f : Nat) (hf : f < 256) (l : List UInt8) : ∀ m k, m < 256 ^ k → val f l m < 256 ^ (k + l.length) := by
  induction l with
  | nil => intro m k h; simpa [val] using h
  | cons b t ih =>
    intro m k h
    have hb := xor_lt b f hf
    have : 256 * m + (b.toNat ^^^ f) < 256 ^ (k + 1) := by rw [Nat.pow_succ]; omega
    have := ih _ _ this
    simpa [val, Nat.add_assoc, Nat.add_comm, Nat.add_left_comm] using this

/-- What is read as a number at the head of bytes: the number, how many bytes, the error. -/
def rdWide (c : UInt8) (t : List UInt8) (f : Nat) : Int × Int × Int :=
  if 247 < c.toNat ^^^ f then (0, 0, 3)
  else if t.length < (c.toNat ^^^ f) - 239 then (0, 0, 2)
  else if wid (val f (t.take ((c.toNat ^^^ f) - 239)) 0) < (c.toNat ^^^ f) - 239 ∨ 9223372036854775695 < val f (t.take ((c.toNat ^^^ f) - 239)) 0 then (0, 0, 3)
  else ((val f (t.take ((c.toNat ^^^ f) - 239)) 0 : Int) + 112, ((c.toNat ^^^ f : Nat) : Int) - 238, 0)

/-- From the number without its sign to the number. -/
def back (f : Nat) (x : Int × Int × Int) : Int × Int × Int := if x.2.2 = 0 ∧ f ≠ 0 then (-x.1 - 1, x.2) else x

def flipOf (c : UInt8) : Nat := if c.toNat < 128 then 255 else 0

def rdNum : List UInt8 → Int × Int × Int
  | [] => (0, 0, 2)
  | c :: t =>
    if c.toNat ^^^ flipOf c < 240 then back (flipOf c) (((c.toNat ^^^ flipOf c : Nat) : Int) - 128, 1, 0)
    else back (flipOf c) (rdWide c t (flipOf c))

/-- The bytes of a number of k bytes, the highest first, each turned by f. -/
def be (f : Nat) : Nat → Nat → List UInt8
  | 0, _ => []
  | k + 1, m => UInt8.ofNat ((m / 256 ^ k % 256) ^^^ f) :: be f k m

def mag (n : Int) : Nat := if n < 0 then (-n - 1).toNat else n.toNat
def sgn (n : Int) : Nat := if n < 0 then 255 else 0
/-- The bytes of a number. -/
def numB (n : Int) : List UInt8 :=
  if mag n < 112 then [UInt8.ofNat ((128 + mag n) ^^^ sgn n)]
  else UInt8.ofNat ((239 + wid (mag n - 112)) ^^^ sgn n) :: be (sgn n) (wid (mag n - 112)) (mag n - 112)
def numsB (l : List Int) : List UInt8 := l.flatMap numB
end Go.Proofs.YthhfmcikfdagiaaDoor.Pl

/-
  The program's stretchesOf: the walk.
-/
namespace Go.Proofs.YthhfmcikfdagiaaDoor
open Go.RowKit

/-- Stretches as cells, of nothing yet. -/
def segV (Z : List (Nat × Nat)) : List Value := Z.flatMap fun z => [.int .i64 (z.1 : Int), .int .i64 (z.2 : Int), .slice none 0 0]
theorem segV_snoc (Z : List (Nat × Nat)) (z : Nat × Nat) : segV (Z ++ [z]) = segV Z ++ [.int .i64 (z.1 : Int), .int .i64 (z.2 : Int), .slice none 0 0] := by simp [segV]
theorem segV_length (Z : List (Nat × Nat)) : (segV Z).length = Z.length * 3 := by
  induction Z with
  | nil => rfl
  | cons x t ih =>
    show (_ :: _ :: _ :: segV t).length = _
    simp only [List.length_cons, ih]
    omega
theorem segV_set (Y : List (Nat × Nat)) (lo c : Nat) (x : Value) : (segV Y ++ [.int .i64 (lo : Int), x, .slice none 0 0]).set (Y.length * 3 + 1) (.int .i64 (c : Int)) = segV (Y ++ [(lo, c)]) := by
  rw [List.set_append_right _ _ (by rw [segV_length]; omega), segV_length, segV_snoc]
  have : Y.length * 3 + 1 - Y.length * 3 = 1 := by omega
  rw [this]
  rfl
theorem segV_at (Y : List (Nat × Nat)) (x y z : Value) : (segV Y ++ [x, y, z])[Y.length * 3 + 1]? = some y := by
  rw [List.getElem?_append_right (by rw [segV_length]; omega), segV_length]
  have : Y.length * 3 + 1 - Y.length * 3 = 1 := by omega
  rw [this]
  rfl
theorem Tryd.infoStr : (Tryd.prog.info? 82).map (fun i => (i.zero, i.size, i.bytes)) = some (some (.agg #[.int .i64 0, .int .i64 0, .slice none 0 0]), 3, 40) := by kernel_rfl

/-- What the second loop holds: the begins, the bytes' stretches, the stretches. -/
structure P2 (b : Nat → Bool) (B C : Nat) (w w0 : World) (c N : Nat) (Z : List (Nat × Nat)) (κ : Nat → Nat) (v : Value) : Prop where
  len : Z.length = N
  le : N ≤ c
  segs : Au.Segs b c Z
  kB : κ B = 1
  kC : κ C = 2
  lo : LoB κ w B
  all : RowC κ 3 w 82 3 v N (segV Z)
  beg : w.rowIs B 105 257 (fun j => .bool (b j))
  of : w.rowIs C 106 256 (fun j => .int .i64 (if j < c then (Au.cnt b j : Int) else 0))
  below : Below B w0 w
/-- The stretches told of one more byte. -/
theorem P2.done {b : Nat → Bool} {B C : Nat} {w w0 w3 : World} {c N N' lo g cp : Nat} {Z Y : List (Nat × Nat)} {κ κ' : Nat → Nat} {v : Value} {x : Value} (h : P2 b B C w w0 c N Z κ v) (hc : c < 256) (hB : B ≤ w.heap.size)
    (hs : Step κ 3 w w3 κ') (hr : RowC κ' 3 w3 82 3 (.slice (some ⟨g, 0, none⟩) N' cp) N' (segV Y ++ [.int .i64 (lo : Int), x, .slice none 0 0])) (hN' : N' = Y.length + 1) (hle : N' ≤ c + 1) (hseg : Au.Segs b (c + 1) (Y ++ [(lo, c)])) (hcnt : Au.cnt b c = Y.length) :
    (w3.cell? ⟨C, c, none⟩ = some (.int .i64 0) ∧ w3.frozen? ⟨C, c, none⟩ = false ∧ (w3.setCell ⟨C, c, none⟩ (.int .i64 (Y.length : Int))).cell? ⟨C, c, none⟩ = some (.int .i64 (Y.length : Int)) ∧
      (w3.setCell ⟨C, c, none⟩ (.int .i64 (Y.length : Int))).cell? ⟨g, Y.length * 3 + 1, none⟩ = some x ∧ (w3.setCell ⟨C, c, none⟩ (.int .i64 (Y.length : Int))).frozen? ⟨g, Y.length * 3 + 1, none⟩ = false) ∧
    P2 b B C ((w3.setCell ⟨C, c, none⟩ (.int .i64 (Y.length : Int))).setCell ⟨g, Y.length * 3 + 1, none⟩ (.int .i64 (c : Int))) w0 (c + 1) N' (Y ++ [(lo, c)]) κ' (.slice (some ⟨g, 0, none⟩) N' cp) := by
  have kB : κ' B = 1 := by rw [hs.col B h.beg.lt, h.kB]
  have kC : κ' C = 2 := by rw [hs.col C h.of.lt, h.kC]
  have hbeg := h.beg.of_block (hs.block B h.beg.lt (by rw [h.kB]; decide))
  have hof := h.of.of_block (hs.block C h.of.lt (by rw [h.kC]; decide))
  have hlo := h.lo.step hs hB
  have hbel := hs.below h.lo (by decide) h.below hB
  have s4 : Step κ' 2 w3 (w3.setCell ⟨C, c, none⟩ (.int .i64 (Y.length : Int))) κ' := Step.of_set w3 C c _ kC
  have hr4 := hr.step s4 (by decide)
  have hof4 := hof.set c (.int .i64 (Y.length : Int))
  have hB3 : B ≤ w3.heap.size := Nat.le_trans hB hs.size
  obtain ⟨g1, g2, _, _, g3, g4⟩ := hr4.at
  have s5 : Step κ' 3 (w3.setCell ⟨C, c, none⟩ (.int .i64 (Y.length : Int))) ((w3.setCell ⟨C, c, none⟩ (.int .i64 (Y.length : Int))).setCell ⟨g, Y.length * 3 + 1, none⟩ (.int .i64 (c : Int))) κ' := Step.of_set _ g _ _ g2
  refine ⟨⟨?_, hof.frozen c, ?_, g4 _ _ (segV_at Y _ _ _), g3 _⟩, ?_, hle, hseg, kB, kC, ?_, ?_, ?_, ?_, ?_⟩
  · rw [hof.cell hc, if_neg (by omega)]
  · rw [hof4.cell hc, if_pos rfl]
  · rw [List.length_append, hN']; rfl
  · exact (hlo.step s4 hB3).step s5 (by simpa [World.setCell] using hB3)
  · have := hr4.set (Y.length * 3 + 1) (.int .i64 (c : Int))
    rw [segV_set] at this
    exact this
  · exact (hbeg.of_block (s4.block B hbeg.lt (by rw [kB]; decide))).of_block (s5.block B (by simpa [World.setCell] using hbeg.lt) (by rw [kB]; decide))
  · refine World.rowIs.congr (hof4.of_block (s5.block C (by simpa [World.setCell] using hof.lt) (by rw [kC]; decide))) fun j hj => ?_
    by_cases e : j = c
    · rw [if_pos e, if_pos (by omega), e, hcnt]
    · rw [if_neg e]
      by_cases e2 : j < c
      · rw [if_pos e2, if_pos (by omega)]
      · rw [if_neg e2, if_neg (by omega)]
  · exact s5.below (hlo.step s4 hB3) (by decide) (s4.below hlo (by decide) hbel hB3) (by simpa [World.setCell] using hB3)

/-- Stretches as cells, with where they lead. -/
def strV (Y : List (Nat × Nat × Value)) : List Value := Y.flatMap fun z => [.int .i64 (z.1 : Int), .int .i64 (z.2.1 : Int), z.2.2]
theorem strV_none (Z : List (Nat × Nat)) : strV (Z.map fun z => (z.1, z.2, Value.slice none 0 0)) = segV Z := by
  unfold strV segV
  rw [List.flatMap_map]
theorem strV_length (Z : List (Nat × Nat × Value)) : (strV Z).length = Z.length * 3 := by
  induction Z with
  | nil => rfl
  | cons x t ih =>
    show (_ :: _ :: _ :: strV t).length = _
    simp only [List.length_cons, ih]
    omega
theorem strV_at (l : List (Nat × Nat × Value)) : ∀ i (h : i < l.length), (strV l)[i * 3]? = some (.int .i64 (l[i].1 : Int)) ∧ (strV l)[i * 3 + 1]? = some (.int .i64 (l[i].2.1 : Int)) ∧ (strV l)[i * 3 + 2]? = some l[i].2.2 := by
  induction l with
  | nil => intro i h; cases h
  | cons x t ih =>
    intro i h
    cases i with
    | zero => exact ⟨rfl, rfl, rfl⟩
    | succ i =>
      simp only [List.length_cons, Nat.add_lt_add_iff_right] at h
      have e : (i + 1) * 3 = i * 3 + 1 + 1 + 1 := by omega
      rw [e]
      exact ih i h
theorem strV_set (l : List (Nat × Nat × Value)) : ∀ i (h : i < l.length) (u : Value), (strV l).set (i * 3 + 2) u = strV (l.set i (l[i].1, l[i].2.1, u)) := by
  induction l with
  | nil => intro i h; cases h
  | cons x t ih =>
    intro i h u
    cases i with
    | zero => rfl
    | succ i =>
      simp only [List.length_cons, Nat.add_lt_add_iff_right] at h
      have e : (i + 1) * 3 + 2 = (i * 3 + 2) + 1 + 1 + 1 := by omega
      rw [e]
      show _ :: _ :: _ :: (strV t).set (i * 3 + 2) u = _
      rw [ih i h u]
      rfl
/-- Numbers as cells. -/
def intsV (l : List Int) : List Value := l.map (fun c => .int .i64 c)
theorem intsV_snoc (l : List Int) (c : Int) : intsV l ++ [.int .i64 c] = intsV (l ++ [c]) := by simp [intsV]
theorem intsV_at (l : List Int) (j : Nat) (h : j < l.length) : (intsV l)[j]? = some (.int .i64 l[j]) := by simp [intsV, h]
/-- What the third loop holds: the bytes' stretches, the stretches, each with where it leads. -/
structure P3 (b : Nat → Bool) (C : Nat) (w w0 : World) (B N : Nat) (Z : List (Nat × Nat)) (Y : List (Nat × Nat × Value)) (T : Nat → List Int) (κ : Nat → Nat) (v : Value) : Prop where
  kC : κ C = 2
  lo : LoB κ w B
  len : Y.length = N
  segs : Y.map (fun y => (y.1, y.2.1)) = Z
  all : RowC κ 3 w 82 3 v N (strV Y)
  to : ∀ i (h : i < Y.length), RowC κ (10 + i) w 3 1 Y[i].2.2 (T i).length (intsV (T i))
  of : w.rowIs C 106 256 (fun j => .int .i64 (Au.cnt b j : Int))
  below : Below B w0 w

namespace Au
/-- Where the arcs that hold a stretch lead. -/
def tos (b : Nat → Bool) (A : List Arc) (i : Nat) : List Int := (A.filter (fun a => decide (cnt b a.lo.toNat ≤ i ∧ i ≤ cnt b a.hi.toNat))).map (fun a => a.to)
theorem tos_snoc (b : Nat → Bool) (A : List Arc) (a : Arc) (i : Nat) : tos b (A ++ [a]) i = if cnt b a.lo.toNat ≤ i ∧ i ≤ cnt b a.hi.toNat then tos b A i ++ [a.to] else tos b A i := by
  unfold tos
  rw [List.filter_append, List.map_append]
  by_cases h : cnt b a.lo.toNat ≤ i ∧ i ≤ cnt b a.hi.toNat
  · rw [if_pos h]
    simp [h]
  · rw [if_neg h]
    simp [h]
theorem tos_len (b : Nat → Bool) (A : List Arc) (i : Nat) : (tos b A i).length ≤ A.length := by
  unfold tos
  rw [List.length_map]
  exact List.length_filter_le _ _
theorem tos_hits (b : Nat → Bool) (A : List Arc) (h : ∀ a ∈ A, byteArc a ∧ (a.lo.toNat = 0 ∨ b a.lo.toNat = true) ∧ b (a.hi.toNat + 1) = true) (x : Nat) : hits A x = tos b A (cnt b x) := by
  unfold hits tos
  congr 1
  apply List.filter_congr
  intro a ha
  obtain ⟨⟨h1, h2, h3⟩, h4, h5⟩ := h a ha
  have := holds_cnt b a h1 h2 h4 h5 x
  cases e : a.holds x with
  | true => exact (decide_eq_true (this.1 e)).symm
  | false => exact (decide_eq_false fun k => by rw [this.2 k] at e; cases e).symm
end Au
/-- What lies beside stays beside. -/
theorem P3.step {b : Nat → Bool} {C : Nat} {w w' w0 : World} {B N c : Nat} {Z : List (Nat × Nat)} {Y : List (Nat × Nat × Value)} {T : Nat → List Int} {κ κ' : Nat → Nat} {v : Value} (h : P3 b C w w0 B N Z Y T κ v) (hs : Step κ c w w' κ') (h2 : c ≠ 2) (h3 : c ≠ 3) (h0 : c ≠ 0) (h10 : c < 10) (hB : B ≤ w.heap.size) : P3 b C w' w0 B N Z Y T κ' v :=
  ⟨by rw [hs.col C h.of.lt, h.kC], h.lo.step hs hB, h.len, h.segs, h.all.step hs (Ne.symm h3), fun i hi => (h.to i hi).step hs (by omega), h.of.of_block (hs.block C h.of.lt (by rw [h.kC]; exact Ne.symm h2)), hs.below h.lo h0 h.below hB⟩
/-- A stretch leads to one more. -/
theorem P3.push {b : Nat → Bool} {C : Nat} {w w3 w0 : World} {B N j g cp ga cpa n : Nat} {Z : List (Nat × Nat)} {Y : List (Nat × Nat × Value)} {T : Nat → List Int} {κ κ' : Nat → Nat} {to : Int} (h : P3 b C w w0 B N Z Y T κ (.slice (some ⟨ga, 0, none⟩) N cpa)) (hB : B ≤ w.heap.size) (hj : j < Y.length)
    (hr : RowC κ' (10 + j) w3 3 1 (.slice (some ⟨g, 0, none⟩) n cp) n (intsV (T j) ++ [.int .i64 to])) (hn : n = (T j).length + 1) (hs : Step κ (10 + j) w w3 κ') :
    (w3.cell? ⟨ga, j * 3 + 2, none⟩ = some Y[j].2.2 ∧ w3.frozen? ⟨ga, j * 3 + 2, none⟩ = false) ∧
    P3 b C (w3.setCell ⟨ga, j * 3 + 2, none⟩ (.slice (some ⟨g, 0, none⟩) n cp)) w0 B N Z (Y.set j (Y[j].1, Y[j].2.1, .slice (some ⟨g, 0, none⟩) n cp)) (fun i => if i = j then T j ++ [to] else T i) κ' (.slice (some ⟨ga, 0, none⟩) N cpa) ∧ κ' ga = 3 := by
  have hall := h.all.step hs (by omega)
  obtain ⟨g1, g2, _, _, g3, g4⟩ := hall.at
  obtain ⟨_, _, c3⟩ := strV_at Y j hj
  have hB3 : B ≤ w3.heap.size := Nat.le_trans hB hs.size
  have hof := h.of.of_block (hs.block C h.of.lt (by rw [h.kC]; omega))
  have kC : κ' C = 2 := by rw [hs.col C h.of.lt, h.kC]
  have s5 : Step κ' 3 w3 (w3.setCell ⟨ga, j * 3 + 2, none⟩ (.slice (some ⟨g, 0, none⟩) n cp)) κ' := Step.of_set w3 ga _ _ g2
  have hlo := h.lo.step hs hB
  refine ⟨⟨g4 _ _ c3, g3 _⟩, ⟨kC, hlo.step s5 hB3, by rw [List.length_set]; exact h.len, ?_, ?_, fun i hi => ?_, hof.of_block (s5.block C hof.lt (by rw [kC]; decide)), s5.below hlo (by decide) (hs.below h.lo (by omega) h.below hB) hB3⟩, g2⟩
  · rw [List.map_set, ← h.segs]
    apply List.ext_getElem?
    intro i
    rw [List.getElem?_set]
    by_cases e : j = i
    · subst e
      rw [if_pos rfl, if_pos (by simpa using hj), List.getElem?_map, List.getElem?_eq_getElem hj]
      rfl
    · rw [if_neg e]
  · rw [← strV_set Y j hj]
    exact hall.set _ _
  · rw [List.length_set] at hi
    rw [List.getElem_set]
    by_cases e : j = i
    · subst e
      rw [if_pos rfl]
      simp only [if_true, List.length_append, List.length_cons, List.length_nil]
      rw [intsV_snoc, hn] at hr
      have := hr.step s5 (by omega)
      simpa [hn] using this
    · rw [if_neg e]
      simp only [Ne.symm e, if_false]
      exact ((h.to i hi).step hs (by omega)).step s5 (by omega)

end Go.Proofs.YthhfmcikfdagiaaDoor

/-
  The library's IndexFunc and DeleteFunc at stretches, with the program's test for those that lead nowhere.
-/
namespace Go.Proofs.YthhfmcikfdagiaaDoor
open Go.RowKit

/-- A slice of nothing. -/
def em : Value → Bool
  | .slice _ n _ => n == 0
  | _ => false
/-- A stretch's cells. -/
def isTo (v : Value) : Prop := ∃ a n c, v = .slice a n c ∧ n ≤ 9223372036854775807

set_option maxRecDepth 100000 in
set_option maxHeartbeats 1000000 in
theorem emptyP_any (w : World) (lo hi : Int) (v : Value) (hv : isTo v) :
    Calls Tryd.prog 58 #[.agg #[.int .i64 lo, .int .i64 hi, v]] w fun e w' => e = .returned (.bool (em v)) ∧ Below w.heap.size w w' := by
  obtain ⟨a, n, c, rfl, hn⟩ := hv
  have hB : Hid (Below w.heap.size w (w.alloc (.cells #[.int .i64 lo, .int .i64 hi, .slice a n c] 82))) := (Below.refl _ _).alloc (Nat.le_refl _) _
  have c1 : (w.alloc (.cells #[.int .i64 lo, .int .i64 hi, .slice a n c] 82)).cell? ⟨w.heap.size, 2, none⟩ = some (.slice a n c) := cell_at w [.int .i64 lo, .int .i64 hi, .slice a n c] _ 2 _ rfl
  by_cases h : n = 0
  · have e : em (.slice a n c) = true := by subst h; rfl
    have e1 : ((n : Int) == 0) = true := beq_iff_eq.2 (by omega)
    rw [e]
    clear e h
    go_enter Tryd.func58, Tryd.ntmps58
    go_wp2_with fail
    go_ret
    exact ⟨rfl, hB.out⟩
  · have e : em (.slice a n c) = false := beq_eq_false_iff_ne.2 h
    have e1 : ((n : Int) == 0) = false := beq_eq_false_iff_ne.2 (by omega)
    rw [e]
    clear e h
    go_enter Tryd.func58, Tryd.ntmps58
    go_wp2_with fail
    go_ret
    exact ⟨rfl, hB.out⟩

/-- The first that leads nowhere; or how many there are. -/
def firstEm : List (Nat × Nat × Value) → Nat
  | [] => 0
  | y :: r => if em y.2.2 = true then 0 else firstEm r + 1
theorem firstEm_le (Y : List (Nat × Nat × Value)) : firstEm Y ≤ Y.length := by
  induction Y with
  | nil => exact Nat.le_refl _
  | cons y r ih => simp only [firstEm, List.length_cons]; split <;> omega
theorem firstEm_drop (Y : List (Nat × Nat × Value)) (k : Nat) (h : k < Y.length) : firstEm (Y.drop k) = if em Y[k].2.2 = true then 0 else firstEm (Y.drop (k + 1)) + 1 := by
  rw [List.drop_eq_getElem_cons h]
  rfl
theorem firstEm_take (Y : List (Nat × Nat × Value)) : (Y.take (firstEm Y)).filter (fun y => !em y.2.2) = Y.take (firstEm Y) := by
  induction Y with
  | nil => rfl
  | cons y r ih =>
    simp only [firstEm]
    by_cases h : em y.2.2 = true
    · rw [if_pos h]; rfl
    · rw [if_neg h, List.take_succ_cons, List.filter_cons]
      have : (!em y.2.2) = true := by simpa using h
      rw [if_pos this, ih]
theorem firstEm_at (Y : List (Nat × Nat × Value)) (h : firstEm Y < Y.length) : em Y[firstEm Y].2.2 = true := by
  induction Y with
  | nil => simp at h
  | cons y r ih =>
    by_cases hy : em y.2.2 = true
    · simp only [firstEm, hy, if_true, List.getElem_cons_zero]
    · have e : firstEm (y :: r) = firstEm r + 1 := by simp only [firstEm]; rw [if_neg hy]
      simp only [e, List.getElem_cons_succ]
      exact ih (by rw [e, List.length_cons] at h; omega)

set_option maxRecDepth 100000 in
set_option maxHeartbeats 4000000 in
theorem indexFunc_any (κ : Nat → Nat) (w : World) (v : Value) (Y : List (Nat × Nat × Value)) (N : Nat) (hN : Y.length = N) (hv : RowC κ 3 w 82 3 v N (strV Y)) (hY : ∀ y ∈ Y, isTo y.2.2) :
    Calls Tryd.prog 83 #[v, .func (.func 58) #[] #[]] w fun e w' => e = .returned (.int .i64 (if firstEm Y < N then (firstEm Y : Int) else -1)) ∧ Below w.heap.size w w' := by
  have hform := hv.form
  obtain ⟨a, cap, rfl, hc1, hc2, hc⟩ := hform
  obtain ⟨r, hr⟩ : ∃ r : Int, (if firstEm Y < N then (firstEm Y : Int) else -1) = r := ⟨_, rfl⟩
  rw [hr]
  have HC := Lib.hid hc
  have HY := Lib.hid hY
  have HN := Lib.hid hN
  have hn2 : N ≤ 9223372036854775807 := by omega
  have HR : Hid ((if 0 + firstEm (Y.drop 0) < N then ((0 + firstEm (Y.drop 0) : Nat) : Int) else -1) = r) := by rw [List.drop_zero, Nat.zero_add]; exact hr
  clear hc hc1 hr hY hN hv
  go_enter Tryd.func83, Tryd.ntmps83
  go_wp2_with fail
  go_loopg [8] N (fun gg vi wx => ∃ k : Nat, k ≤ N ∧ gg = N - k ∧ vi = .int .i64 k ∧ Hid ((if k + firstEm (Y.drop k) < N then ((k + firstEm (Y.drop k) : Nat) : Int) else -1) = r) ∧ Below w.heap.size w wx)
  case atStart => exact ⟨0, Nat.zero_le _, rfl, rfl, HR, Below.refl _ _⟩
  case round =>
    obtain ⟨k, hk, rfl, rfl, hS, hbel⟩ := hrel
    by_cases hkn : k < N
    · have j1 : (k : Int) < (N : Int) := by omega
      have kl : k < Y.length := by rw [HN.out]; exact hkn
      obtain ⟨g, rfl, hg, _, _, hcl⟩ := HC.out (by omega)
      obtain ⟨s1, s2, s3⟩ := strV_at Y k kl
      have e1 := (hbel.cell (p := ⟨g, k * 3, none⟩) hg).trans (hcl _ _ s1)
      have e2 := (hbel.cell (p := ⟨g, k * 3 + 1, none⟩) hg).trans (hcl _ _ s2)
      have e3 := (hbel.cell (p := ⟨g, k * 3 + 2, none⟩) hg).trans (hcl _ _ s3)
      have hto := HY.out _ (List.getElem_mem kl)
      have hL := hS.out
      rw [firstEm_drop Y k kl] at hL
      have HL := Lib.hid hL
      have HBE := Lib.hid hbel
      have HE : Hid (∀ W, Calls Tryd.prog 58 #[.agg #[.int .i64 (Y[k].1 : Int), .int .i64 (Y[k].2.1 : Int), Y[k].2.2]] W fun e w' => e = .returned (.bool (em Y[k].2.2)) ∧ Below W.heap.size W w') := fun W => emptyP_any W _ _ _ hto
      clear s1 s2 s3 hcl hL hS hbel hto
      generalize Y[k] = y at *
      by_cases he : em y.2.2 = true
      · have hr : (k : Int) = r := by
          have h := HL.out
          rw [if_pos he, Nat.add_zero, if_pos hkn] at h
          exact h
        subst hr
        rw [he] at HE
        clear HL he
        go_wp2_with fail
        refine (HE.out _).mono ?_
        rintro e w2 ⟨rfl, hb⟩
        have HB2 : Hid (Below w.heap.size w w2) := chain HBE.out hb
        clear hb
        go_wp2_with fail
        go_ret
        exact ⟨rfl, HB2.out⟩
      · have hst : Hid ((if k + 1 + firstEm (Y.drop (k + 1)) < N then ((k + 1 + firstEm (Y.drop (k + 1)) : Nat) : Int) else -1) = r) := by
          have h := HL.out
          rw [if_neg he] at h
          have e : k + (firstEm (Y.drop (k + 1)) + 1) = k + 1 + firstEm (Y.drop (k + 1)) := by omega
          rw [e] at h
          exact h
        have he' : em y.2.2 = false := by simpa using he
        rw [he'] at HE
        clear HL he he'
        go_wp2_with fail
        refine (HE.out _).mono ?_
        rintro e w2 ⟨rfl, hb⟩
        have HB2 : Hid (Below w.heap.size w w2) := chain HBE.out hb
        clear hb
        go_wp2_with fail
        go_roundg (N - (k + 1))
        case rel => exact ⟨k + 1, by omega, rfl, by go_num, hst, HB2.out⟩
        case measure => omega
    · obtain rfl : k = N := by omega
      have hr : -1 = r := by
        have h := hS.out
        rw [List.drop_of_length_le (by rw [HN.out]; exact Nat.le_refl _), if_neg (by omega)] at h
        exact h
      subst hr
      have HBE := Lib.hid hbel
      clear hS hbel
      go_wp2_with fail
      go_ret
      exact ⟨rfl, HBE.out⟩
end Go.Proofs.YthhfmcikfdagiaaDoor

/-
  The library's DeleteFunc at stretches.
-/
namespace Go.Proofs.YthhfmcikfdagiaaDoor
open Go.RowKit

theorem strV_setAll (l : List (Nat × Nat × Value)) : ∀ i (_ : i < l.length) (y : Nat × Nat × Value), (((strV l).set (i * 3) (.int .i64 (y.1 : Int))).set (i * 3 + 1) (.int .i64 (y.2.1 : Int))).set (i * 3 + 2) y.2.2 = strV (l.set i y) := by
  induction l with
  | nil => intro i h; cases h
  | cons x t ih =>
    intro i h y
    cases i with
    | zero => rfl
    | succ i =>
      simp only [List.length_cons, Nat.add_lt_add_iff_right] at h
      have e : (i + 1) * 3 = i * 3 + 1 + 1 + 1 := by omega
      rw [e]
      show _ :: _ :: _ :: (((strV t).set (i * 3) _).set (i * 3 + 1) _).set (i * 3 + 2) _ = _
      rw [ih i h y]
      rfl
/-- The elements kept so far stand ahead, those not looked at where they stood. -/
structure Kept (κ : Nat → Nat) (w : World) (g N cp : Nat) (Y : List (Nat × Nat × Value)) (i j : Nat) : Prop where
  row : ∃ X, X.length = N ∧ RowC κ 3 w 82 3 (.slice (some ⟨g, 0, none⟩) N cp) N (strV X) ∧ X.take i = (Y.take j).filter (fun y => !em y.2.2) ∧ X.drop j = Y.drop j
  len : i = ((Y.take j).filter (fun y => !em y.2.2)).length
  lt : i < j
  le : j ≤ N
  tot : Y.length = N
theorem Kept.get {κ : Nat → Nat} {w : World} {g N cp : Nat} {Y : List (Nat × Nat × Value)} {i j : Nat} (h : Kept κ w g N cp Y i j) (hj : j < Y.length) :
    g < w.heap.size ∧ κ g = 3 ∧ (∀ x, w.frozen? ⟨g, x, none⟩ = false) ∧ (w.cell? ⟨g, j * 3, none⟩ = some (.int .i64 (Y[j].1 : Int)) ∧ w.cell? ⟨g, j * 3 + 1, none⟩ = some (.int .i64 (Y[j].2.1 : Int)) ∧ w.cell? ⟨g, j * 3 + 2, none⟩ = some Y[j].2.2) ∧
    ∃ x y z, w.cell? ⟨g, i * 3, none⟩ = some x ∧ w.cell? ⟨g, i * 3 + 1, none⟩ = some y ∧ w.cell? ⟨g, i * 3 + 2, none⟩ = some z := by
  obtain ⟨X, h1, h2, h3, h4⟩ := h.row
  have hjX : j < X.length := by rw [h1, ← h.tot]; exact hj
  have hiX : i < X.length := by have := h.lt; omega
  obtain ⟨g1, g2, _, _, g3, g4⟩ := h2.at
  have e : X[j] = Y[j] := by
    have := congrArg (fun l => l[0]?) h4
    simp only [List.getElem?_drop, Nat.add_zero] at this
    rw [List.getElem?_eq_getElem hjX, List.getElem?_eq_getElem hj] at this
    injection this
  obtain ⟨s1, s2, s3⟩ := strV_at X j hjX
  obtain ⟨t1, t2, t3⟩ := strV_at X i hiX
  rw [e] at s1 s2 s3
  exact ⟨g1, g2, g3, ⟨g4 _ _ s1, g4 _ _ s2, g4 _ _ s3⟩, _, _, _, g4 _ _ t1, g4 _ _ t2, g4 _ _ t3⟩
theorem Kept.below {κ : Nat → Nat} {w w' : World} {g N cp : Nat} {Y : List (Nat × Nat × Value)} {i j : Nat} (h : Kept κ w g N cp Y i j) (hb : Below w.heap.size w w') : Kept κ w' g N cp Y i j := by
  obtain ⟨X, h1, h2, h3, h4⟩ := h.row
  exact ⟨⟨X, h1, ⟨ownsRow_keep h2.own fun k hk => hb.block k (h2.lt k hk).1, h2.col⟩, h3, h4⟩, h.len, h.lt, h.le, h.tot⟩
theorem Kept.drop {κ : Nat → Nat} {w : World} {g N cp : Nat} {Y : List (Nat × Nat × Value)} {i j : Nat} (h : Kept κ w g N cp Y i j) (hj : j < Y.length) (he : em Y[j].2.2 = true) : Kept κ w g N cp Y i (j + 1) := by
  obtain ⟨X, h1, h2, h3, h4⟩ := h.row
  have e : (Y.take (j + 1)).filter (fun y => !em y.2.2) = (Y.take j).filter (fun y => !em y.2.2) := by
    rw [List.take_succ_eq_append_getElem hj, List.filter_append]
    simp [he]
  refine ⟨⟨X, h1, h2, by rw [e]; exact h3, ?_⟩, by rw [e]; exact h.len, by have := h.lt; omega, by have := h.tot; omega, h.tot⟩
  have := congrArg (List.drop 1) h4
  simpa [List.drop_drop, Nat.add_comm] using this
theorem Kept.put {κ : Nat → Nat} {w : World} {g N cp : Nat} {Y : List (Nat × Nat × Value)} {i j : Nat} (h : Kept κ w g N cp Y i j) (hj : j < Y.length) (he : em Y[j].2.2 = false) :
    Kept κ (((w.setCell ⟨g, i * 3, none⟩ (.int .i64 (Y[j].1 : Int))).setCell ⟨g, i * 3 + 1, none⟩ (.int .i64 (Y[j].2.1 : Int))).setCell ⟨g, i * 3 + 2, none⟩ Y[j].2.2) g N cp Y (i + 1) (j + 1) := by
  obtain ⟨X, h1, h2, h3, h4⟩ := h.row
  have hlt := h.lt
  have hiX : i < X.length := by have := h.le; omega
  have e : (Y.take (j + 1)).filter (fun y => !em y.2.2) = (Y.take j).filter (fun y => !em y.2.2) ++ [Y[j]] := by
    rw [List.take_succ_eq_append_getElem hj, List.filter_append]
    simp [he]
  have hr := ((h2.set (i * 3) (.int .i64 (Y[j].1 : Int))).set (i * 3 + 1) (.int .i64 (Y[j].2.1 : Int))).set (i * 3 + 2) Y[j].2.2
  rw [strV_setAll X i hiX Y[j]] at hr
  refine ⟨⟨X.set i Y[j], by rw [List.length_set]; exact h1, hr, ?_, ?_⟩, by rw [e, List.length_append, ← h.len]; rfl, by omega, by have := h.tot; omega, h.tot⟩
  · rw [e, ← h3, List.take_succ_eq_append_getElem (by rw [List.length_set]; exact hiX), List.take_set_of_le (by omega)]
    simp
  · rw [List.drop_set_of_lt (by omega)]
    have := congrArg (List.drop 1) h4
    simpa [List.drop_drop, Nat.add_comm] using this
theorem kept_start {κ : Nat → Nat} {w : World} {g N cp : Nat} {Y : List (Nat × Nat × Value)} (h : RowC κ 3 w 82 3 (.slice (some ⟨g, 0, none⟩) N cp) N (strV Y)) (hN : Y.length = N) (hk : firstEm Y < N) : Kept κ w g N cp Y (firstEm Y) (firstEm Y + 1) := by
  have h1 : (Y.take (firstEm Y + 1)).filter (fun y => !em y.2.2) = Y.take (firstEm Y) := by
    rw [List.take_succ_eq_append_getElem (by omega), List.filter_append, firstEm_take]
    have := firstEm_at Y (by omega)
    simp [this]
  refine ⟨⟨Y, hN, h, h1.symm, rfl⟩, ?_, by omega, by omega, hN⟩
  rw [h1, List.length_take]
  omega
/-- Zero stretches as cells. -/
def zs (n : Nat) : List Value := (List.replicate n [.int .i64 0, .int .i64 0, Value.slice none 0 0]).flatten
theorem zs_len (n : Nat) : (zs n).length = n * 3 := by
  unfold zs
  induction n with
  | zero => rfl
  | succ n ih => rw [List.replicate_succ, List.flatten_cons, List.length_append, ih]; simp; omega
theorem zs_cells (n : Nat) : (Builtin.zeroCells #[.int .i64 0, .int .i64 0, Value.slice none 0 0] n).toList = zs n := by
  have e1 : (#[Value.int .i64 0, .int .i64 0, Value.slice none 0 0] : Array Value).size = 3 := rfl
  apply List.ext_getElem
  · simp [Builtin.zeroCells, zs_len]
  · intro i h1 h2
    simp only [Builtin.zeroCells, Array.toList_map, List.getElem_map, Array.toList_range, List.getElem_range, e1]
    have key : ∀ n i (h : i < (zs n).length), (zs n)[i] = #[Value.int .i64 0, .int .i64 0, Value.slice none 0 0][i % 3]! := by
      intro n
      induction n with
      | zero => intro i h; simp [zs] at h
      | succ n ih =>
        intro i h
        have e : zs (n + 1) = [.int .i64 0, .int .i64 0, Value.slice none 0 0] ++ zs n := by unfold zs; rw [List.replicate_succ, List.flatten_cons]
        by_cases hi : i < 3
        · simp only [e]
          match i, hi with
          | 0, _ => rfl
          | 1, _ => rfl
          | 2, _ => rfl
        · simp only [e]
          rw [List.getElem_append_right (by simp; omega)]
          simp only [List.length_cons, List.length_nil]
          rw [ih (i - 3) (by rw [e, List.length_append] at h; simp at h; omega)]
          congr 1
          omega
    exact (key n i h2).symm
theorem run_clearS (w : World) (g o n c : Nat) (hn : 0 < n) (ty : TypeId) (hc : ∀ j, j < n * 3 → (w.cell? ⟨g, o + j, none⟩).isSome = true) (hf : ∀ j, w.frozen? ⟨g, j, none⟩ = false) :
    (Builtin.clear_ #[79] ty #[.slice (some ⟨g, o, none⟩) n c]).run Tryd.prog w = .ok (.tuple #[]) (w.setCells g o (zs n)) := by
  have hv : ∀ w, (zeroValue 82).run Tryd.prog w = .ok (.agg #[.int .i64 0, .int .i64 0, .slice none 0 0]) w := fun w => by kernel_rfl
  have hst := run_storeCells_cells (P := Tryd.prog) g o (zs n) 0 w (by rw [zs_len]; simpa using hc) (by intro j _; exact hf _) (by
    intro v hv
    unfold zs at hv
    rw [List.mem_flatten] at hv
    obtain ⟨l, hl, hv⟩ := hv
    rw [List.eq_of_mem_replicate hl] at hv
    exact one_of (l := [.int .i64 0, .int .i64 0, .slice none 0 0]) rfl v hv)
  simp only [Nat.add_zero] at hst
  obtain ⟨m, rfl⟩ : ∃ m, n = m + 1 := ⟨n - 1, by omega⟩
  simp [Builtin.clear_, run_underlying Tryd.underlying79, hv, Value.cells, zs_cells, hst]
/-- What is kept, and what it leaves. -/
def Deleted (w : World) (g cp : Nat) (Y : List (Nat × Nat × Value)) (e : Ending) (w' : World) : Prop :=
  e = .returned (.slice (some ⟨g, 0, none⟩) (Y.filter (fun y => !em y.2.2)).length cp) ∧ (Y.filter (fun y => !em y.2.2)).length ≤ cp ∧
  (∀ (j : Nat) (u : Value), (strV (Y.filter (fun y => !em y.2.2)))[j]? = some u → w'.cell? ⟨g, j, none⟩ = some u) ∧ KeptF (fun b => b = g) w w'
theorem keptF_setCells (F : Nat → Prop) (g : Nat) (hg : F g) {w0 : World} : ∀ (vs : List Value) (o : Nat) {w : World}, KeptF F w0 w → KeptF F w0 (w.setCells g o vs)
  | [], _, _, h => h
  | v :: r, o, _, h => keptF_setCells F g hg r (o + 1) (h.set g o hg v)
theorem strV_take (Y : List (Nat × Nat × Value)) : ∀ k, strV (Y.take k) = (strV Y).take (k * 3) := by
  induction Y with
  | nil => intro k; simp [strV]
  | cons y r ih =>
    intro k
    cases k with
    | zero => simp [strV]
    | succ k =>
      rw [List.take_succ_cons]
      show _ :: _ :: _ :: strV (r.take k) = _
      rw [ih k]
      have e : (k + 1) * 3 = k * 3 + 1 + 1 + 1 := by omega
      rw [e]
      rfl
theorem Kept.done {κ : Nat → Nat} {w0 w : World} {g N cp : Nat} {Y : List (Nat × Nat × Value)} {i : Nat} (h : Kept κ w g N cp Y i N) (hk : KeptF (fun b => b = g) w0 w) :
    (∀ j, j < (N - i) * 3 → (w.cell? ⟨g, i * 3 + j, none⟩).isSome = true) ∧ (∀ j, w.frozen? ⟨g, j, none⟩ = false) ∧ i < N ∧ N ≤ cp ∧ cp ≤ 9223372036854775807 ∧ i = (Y.filter (fun y => !em y.2.2)).length ∧ Deleted w0 g cp Y (.returned (.slice (some ⟨g, 0, none⟩) i cp)) (w.setCells g (i * 3) (zs (N - i))) := by
  obtain ⟨X, h1, h2, h3, h4⟩ := h.row
  have hlt := h.lt
  have htot := h.tot
  have hf : Y.take N = Y := List.take_of_length_le (by omega)
  rw [hf] at h3
  have hlen := h.len
  rw [hf] at hlen
  obtain ⟨g1, g2, g5, g6, g3, g4⟩ := h2.at
  refine ⟨fun j hj => ?_, g3, hlt, g5, g6, hlen, by rw [← hlen], by omega, fun j u hu => ?_, ?_⟩
  · have hl : i * 3 + j < (strV X).length := by rw [strV_length, h1]; omega
    rw [g4 _ _ (List.getElem?_eq_getElem hl)]
    rfl
  · rw [← h3, strV_take] at hu
    have hj : j < i * 3 := by
      have := (List.getElem?_eq_some_iff.1 hu).1
      rw [List.length_take] at this
      omega
    rw [World.cell?_setCells_out g _ _ _ ⟨g, j, none⟩ (fun _ _ => .inl hj)]
    rw [List.getElem?_take] at hu
    rw [if_pos hj] at hu
    exact g4 _ _ hu
  · exact keptF_setCells (fun b => b = g) g rfl _ _ hk

set_option maxRecDepth 100000 in
set_option maxHeartbeats 4000000 in
theorem deleteFunc_any (κ : Nat → Nat) (w : World) (g N cp : Nat) (Y : List (Nat × Nat × Value)) (hN : Y.length = N) (hv : RowC κ 3 w 82 3 (.slice (some ⟨g, 0, none⟩) N cp) N (strV Y)) (hY : ∀ y ∈ Y, isTo y.2.2) :
    Calls Tryd.prog 57 #[.slice (some ⟨g, 0, none⟩) N cp, .func (.func 58) #[] #[]] w (Deleted w g cp Y) := by
  have HI := Lib.hid (indexFunc_any κ w _ Y N hN hv hY)
  obtain ⟨hg, _, hncp, hcp, _, hcl⟩ := hv.at
  by_cases hk : firstEm Y < N
  rotate_left
  · have hf : Y.filter (fun y => !em y.2.2) = Y := by
      have h1 := firstEm_take Y
      have h2 := firstEm_le Y
      rw [List.take_of_length_le (by omega)] at h1
      exact h1
    unfold Deleted
    rw [hf, hN]
    have e1 : (if firstEm Y < N then (firstEm Y : Int) else -1) = -1 := if_neg hk
    rw [e1] at HI
    have HC := Lib.hid hcl
    clear hcl hv hY e1 hf
    go_enter Tryd.func57, Tryd.ntmps57
    go_wp2_with fail
    refine HI.out.mono ?_
    rintro e w1 ⟨rfl, hb⟩
    have HB := Lib.hid hb
    clear hb
    go_wp2_with fail
    go_ret
    exact ⟨rfl, hncp, fun j u hu => (HB.out.cell (p := ⟨g, j, none⟩) hg).trans (HC.out j u hu), KeptF.of_below HB.out⟩
  · have e1 : (if firstEm Y < N then (firstEm Y : Int) else -1) = (firstEm Y : Int) := if_pos hk
    rw [e1] at HI
    have HK0 : Hid (∀ w1, Below w.heap.size w w1 → Kept κ w1 g N cp Y (firstEm Y) (firstEm Y + 1)) := fun w1 hb => (kept_start hv hN hk).below hb
    have HY := Lib.hid hY
    have n1 : ((firstEm Y : Int) == -1) = false := beq_eq_false_iff_ne.2 (by omega)
    have hn2 : N ≤ 9223372036854775807 := by omega
    clear hcl hv hY e1
    generalize firstEm Y = k0 at *
    go_enter Tryd.func57, Tryd.ntmps57
    go_wp2_with fail
    refine HI.out.mono ?_
    rintro e w1 ⟨rfl, hb⟩
    have HKT := Lib.hid (HK0.out w1 hb)
    have HB1 : Hid (KeptF (fun b => b = g) w w1) := KeptF.of_below hb
    clear hb HI HK0
    go_wp2_with fail
    go_loopg [5, 6] (N - (k0 + 1)) (fun gg vi vj wx => ∃ i j : Nat, i < j ∧ j ≤ N ∧ gg = N - j ∧ vi = .int .i64 i ∧ vj = .int .i64 j ∧ Hid (Kept κ wx g N cp Y i j) ∧ Hid (KeptF (fun b => b = g) w wx))
    case atStart => exact ⟨k0, k0 + 1, by omega, by omega, rfl, rfl, rfl, HKT, HB1⟩
    case round =>
      clear HKT HB1
      obtain ⟨i, j, hij, hjN, rfl, rfl, rfl, hT, hK⟩ := hrel
      by_cases hjn : j < N
      · have j1 : (j : Int) < (N : Int) := by omega
        have j2 : (i : Int) < (N : Int) := by omega
        have jl : j < Y.length := by omega
        obtain ⟨g1, g2, g3, ⟨c1, c2, c3⟩, x0, x1, x2, d1, d2, d3⟩ := hT.out.get jl
        have hto := HY.out _ (List.getElem_mem jl)
        have HE : Hid (∀ W, Calls Tryd.prog 58 #[.agg #[.int .i64 (Y[j].1 : Int), .int .i64 (Y[j].2.1 : Int), Y[j].2.2]] W fun e w' => e = .returned (.bool (em Y[j].2.2)) ∧ Below W.heap.size W w') := fun W => emptyP_any W _ _ _ hto
        have hdr : Hid (em Y[j].2.2 = true → ∀ w2, Kept κ w2 g N cp Y i j → Kept κ w2 g N cp Y i (j + 1)) := fun he w2 h => h.drop jl he
        have hpu : Hid (em Y[j].2.2 = false → ∀ w2, Kept κ w2 g N cp Y i j → _) := fun he w2 h => h.put jl he
        obtain ⟨a5, n5, c5, h5, _⟩ := hto
        rw [h5] at HE hdr hpu c3
        generalize (Y[j].1 : Int) = p at *
        generalize (Y[j].2.1 : Int) = q at *
        clear h5
        cases he : em (.slice a5 n5 c5) with
        | true =>
          have HD := Lib.hid (hdr.out he)
          rw [he] at HE
          clear hdr hpu he d1 d2 d3
          go_wp2_with fail
          refine (HE.out _).mono ?_
          rintro e w2 ⟨rfl, hb⟩
          have hb0 : Below wr.heap.size wr (wr.alloc (.cells #[.int .i64 p, .int .i64 q, .slice a5 n5 c5] 82)) := (Below.refl _ _).alloc (Nat.le_refl _) _
          have hb1 := chain hb0 hb
          have HT := Lib.hid (HD.out _ (hT.out.below hb1))
          have HK : Hid (KeptF (fun b => b = g) w w2) := hK.out.trans (KeptF.of_below hb1)
          clear hb hb0 hb1
          go_wp2_with fail
          go_roundg (N - (j + 1))
          case rel => exact ⟨i, j + 1, by omega, by omega, rfl, rfl, by go_num, HT, HK⟩
          case measure => omega
        | false =>
          have HD := Lib.hid (hpu.out he)
          rw [he] at HE
          clear hdr hpu he
          go_wp2_with fail
          refine (HE.out _).mono ?_
          rintro e w2 ⟨rfl, hb⟩
          have hb0 : Below wr.heap.size wr (wr.alloc (.cells #[.int .i64 p, .int .i64 q, .slice a5 n5 c5] 82)) := (Below.refl _ _).alloc (Nat.le_refl _) _
          have hb1 := chain hb0 hb
          have HT := Lib.hid (HD.out _ (hT.out.below hb1))
          have HK : Hid (KeptF (fun b => b = g) w w2) := hK.out.trans (KeptF.of_below hb1)
          obtain ⟨_, _, f3, _, y0, y1, y2, k1, k2, k3⟩ := (hT.out.below hb1).get jl
          have v0 : w2.cell? ⟨wr.heap.size, 0, none⟩ = some (.int .i64 p) := (hb.cell (p := ⟨wr.heap.size, 0, none⟩) (by simp)).trans (cell_at wr [.int .i64 p, .int .i64 q, .slice a5 n5 c5] _ 0 _ rfl)
          have v1 : w2.cell? ⟨wr.heap.size, 1, none⟩ = some (.int .i64 q) := (hb.cell (p := ⟨wr.heap.size, 1, none⟩) (by simp)).trans (cell_at wr [.int .i64 p, .int .i64 q, .slice a5 n5 c5] _ 1 _ rfl)
          have v2 : w2.cell? ⟨wr.heap.size, 2, none⟩ = some (.slice a5 n5 c5) := (hb.cell (p := ⟨wr.heap.size, 2, none⟩) (by simp)).trans (cell_at wr [.int .i64 p, .int .i64 q, .slice a5 n5 c5] _ 2 _ rfl)
          have q0 := f3 (i * 3)
          have q1 := f3 (i * 3 + 1)
          have q2 := f3 (i * 3 + 2)
          clear hb hb0 hb1 f3 hT
          go_wp2_with fail
          go_roundg (N - (j + 1))
          case rel => exact ⟨i + 1, j + 1, by omega, by omega, rfl, by go_num, by go_num, HT, ((HK.out.set g (i * 3) rfl _).set g (i * 3 + 1) rfl _).set g (i * 3 + 2) rfl _⟩
          case measure => omega
      · obtain rfl : j = N := by omega
        obtain ⟨f1, f2, f3, f4, f5, f6, f7⟩ := hT.out.done hK.out
        have HF := Lib.hid f7
        have hcl := fun ty => run_clearS wr g (i * 3) (j - i) (cp - i) (by omega) ty f1 f2
        have j1 : ¬ (j : Int) < (j : Int) := by omega
        have j2 : (i : Int) ≤ (j : Int) := by omega
        have j3 : (j : Int) ≤ (cp : Int) := by omega
        have j4 : i ≠ cp := by omega
        clear f1 f2 f6 f7 hT hK
        go_wp2_with fail
        go_ret
        exact HF.out
/-- A list of numbers as a slice. -/
theorem RowC.nums {κ : Nat → Nat} {c : Nat} {w : World} {v : Value} {l : List Int} (h : RowC κ c w 3 1 v l.length (intsV l)) (F : Nat → Prop) (hF : ∀ g, g < w.heap.size → κ g = c → F g) : NumS F w v l := by
  obtain ⟨a, cap, h1, h2, h3, h4⟩ := h.form
  refine ⟨a, cap, h1, h2, h3, fun h0 => ?_⟩
  obtain ⟨g, h5, h6, h7, _, h8⟩ := h4 h0
  refine ⟨g, 0, h5, h6, hF g h6 h7, fun j hj => ?_⟩
  rw [Nat.zero_add]
  exact h8 j _ (intsV_at l j hj)
theorem Au.All2.filter {σ τ : Type} {R : σ → τ → Prop} {p : σ → Bool} {q : τ → Bool} {l : List σ} {m : List τ} (h : Au.All2 R l m) (hpq : ∀ a b, R a b → p a = q b) : Au.All2 R (l.filter p) (m.filter q) := by
  induction h with
  | nil => exact .nil
  | cons hab _ ih =>
    rw [List.filter_cons, List.filter_cons, hpq _ _ hab]
    split
    · exact .cons hab ih
    · exact ih
theorem Au.All2.of_get {σ τ : Type} {R : σ → τ → Prop} : ∀ {l : List σ} {m : List τ}, l.length = m.length → (∀ i (h : i < l.length) (h' : i < m.length), R l[i] m[i]) → Au.All2 R l m
  | [], [], _, _ => .nil
  | a :: l, b :: m, hl, h => .cons (h 0 (by simp) (by simp)) (Au.All2.of_get (by simpa using hl) fun i hi hi' => h (i + 1) (Nat.succ_lt_succ hi) (Nat.succ_lt_succ hi'))
/-- What the third loop leaves, and what of it is kept. -/
theorem P3.done {L : List (List Au.Arc)} {C : Nat} {w w0 w' : World} {B N ga cp : Nat} {Z : List (Nat × Nat)} {Y : List (Nat × Nat × Value)} {κ : Nat → Nat} {e : Ending} (h : P3 (Au.marks L.flatten) C w w0 B N Z Y (Au.tos (Au.marks L.flatten) L.flatten) κ (.slice (some ⟨ga, 0, none⟩) N cp)) (hZ : Au.Segs (Au.marks L.flatten) 256 Z) (hL : ∀ l ∈ L, ∀ a ∈ l, Au.byteArc a) (hB : B = w0.heap.size) (hBw : B ≤ w.heap.size) (hd : Deleted w ga cp Y e w') :
    ∃ u S, e = .returned u ∧ Au.Cut L.flatten 0 S ∧ StrS (fun g => w0.heap.size ≤ g) w' u S ∧ Below w0.heap.size w0 w' := by
  obtain ⟨d1, d2, d3, d4⟩ := hd
  have hall := h.all.at
  have hga3 : κ ga = 3 := hall.2.1
  have hgaB : B ≤ ga := h.lo ga hall.1 (by rw [hga3]; decide)
  have hbel : Below w0.heap.size w0 w' := by
    rw [← hB]
    exact d4.below h.below (fun k hk => by rw [hk]; exact hgaB) hBw
  have hZl : Z.length = N := by rw [← h.segs, List.length_map]; exact h.len
  have hT : ∀ x, Au.hits L.flatten x = Au.tos (Au.marks L.flatten) L.flatten (Au.cnt (Au.marks L.flatten) x) := fun x => Au.tos_hits _ _ (fun a ha => by
    obtain ⟨l, hl, hal⟩ := List.mem_flatten.1 ha
    have h1 := hL l hl a hal
    exact ⟨h1, .inr (Au.marks_lo ha h1.1), Au.marks_hi ha (by have := h1.1; have := h1.2.1; omega)⟩) x
  have hbes := Au.segs_beside hZ L.flatten ((List.range N).map fun k => Au.tos (Au.marks L.flatten) L.flatten k) (by simp [hZl]) (fun k hk x _ hx => by rw [hT x, hx]; simp)
  have hcut := Au.beside_cut _ _ _ hbes
  have hrel : Au.All2 (fun (y : Nat × Nat × Value) (s : Au.Strch) => (y.1 = s.lo ∧ y.2.1 = s.hi) ∧ (!em y.2.2) = (!s.to.isEmpty) ∧ NumS (fun g => w0.heap.size ≤ g) w' y.2.2 s.to) Y ((List.range Z.length).map fun k => ⟨(Z.getD k (0, 0)).1, (Z.getD k (0, 0)).2, ((List.range N).map fun k => Au.tos (Au.marks L.flatten) L.flatten k).getD k []⟩) := by
    refine Au.All2.of_get (by simp [hZl, h.len]) fun i hi hi' => ?_
    have hiN : i < N := by rw [← h.len]; exact hi
    simp only [List.getElem_map, List.getElem_range]
    have e1 : Z.getD i (0, 0) = (Y[i].1, Y[i].2.1) := by
      rw [← h.segs]
      simp [List.getD, hi]
    have e2 : ((List.range N).map fun k => Au.tos (Au.marks L.flatten) L.flatten k).getD i [] = Au.tos (Au.marks L.flatten) L.flatten i := by simp [List.getD, hiN]
    rw [e1, e2]
    have hrow := h.to i hi
    refine ⟨⟨rfl, rfl⟩, ?_, ?_⟩
    · obtain ⟨a, c, hv, _⟩ := hrow.form
      rw [hv]
      show (!((Au.tos _ _ i).length == 0)) = _
      cases Au.tos (Au.marks L.flatten) L.flatten i <;> rfl
    · have hn := hrow.nums (fun g => B ≤ g ∧ g ≠ ga) (fun g hg hc => ⟨h.lo g hg (by rw [hc]; omega), fun e => by rw [e, hga3] at hc; omega⟩)
      have hn2 := hn.keep (w' := w') d4.size fun g hg hgl => d4.block g hgl hg.2
      refine hn2.wide fun g _ hg => ?_
      rw [← hB]
      exact hg.1
  have hfil := hrel.filter (p := fun y => !em y.2.2) (q := fun s => !s.to.isEmpty) fun a b hab => hab.2.1
  refine ⟨_, _, d1, hcut, ?_, hbel⟩
  have hlen := hfil.length
  refine ⟨_, cp, by rw [hlen], by rw [← hlen]; exact d2, hall.2.2.2.1, fun h0 => ⟨ga, 0, rfl, Nat.lt_of_lt_of_le hall.1 d4.size, by rw [← hB]; exact hgaB, fun j hj => ?_⟩⟩
  rcases hfil.get j with ⟨_, e2⟩ | ⟨a, b, e1, e2, hR⟩
  · rw [List.getElem?_eq_getElem hj] at e2
    cases e2
  · obtain ⟨hj1, rfl⟩ := List.getElem?_eq_some_iff.1 e1
    obtain ⟨_, rfl⟩ := List.getElem?_eq_some_iff.1 e2
    obtain ⟨⟨r1, r2⟩, _, r3⟩ := hR
    obtain ⟨s1, s2, s3⟩ := strV_at _ j hj1
    rw [Nat.zero_add]
    refine ⟨?_, ?_, _, d3 _ _ s3, r3⟩
    · rw [d3 _ _ s1, r1]
    · rw [d3 _ _ s2, r2]
end Go.Proofs.YthhfmcikfdagiaaDoor

/-
  Where bytes lead two states at once, plainly: two rows of arcs gone through side by side.
-/
namespace Go.Proofs.YthhfmcikfdagiaaDoor
namespace Au
theorem look_low {n : Nat} {c : Int} {l : List Arc} (h : Row n c l) (z : Int) (hz : ∀ a ∈ l, z < a.lo) : look l z = none := by
  induction l with
  | nil => rfl
  | cons a r ih =>
    have := hz a (List.mem_cons_self ..)
    unfold look
    rw [if_neg (by omega)]
    exact ih h.tail.1 fun x hx => hz x (List.mem_cons_of_mem _ hx)
theorem look_skip (a : Arc) (r : List Arc) (z : Int) (hz : a.hi < z) : look (a :: r) z = look r z := by
  show (if a.lo ≤ z ∧ z ≤ a.hi then some a.to else look r z) = _
  rw [if_neg (by omega)]
theorem look_hit (a : Arc) (r : List Arc) (z : Int) (h : a.lo ≤ z ∧ z ≤ a.hi) : look (a :: r) z = some a.to := by
  show (if a.lo ≤ z ∧ z ≤ a.hi then some a.to else look r z) = _
  rw [if_pos h]
theorem look_ahead {n : Nat} {c : Int} {a : Arc} {r : List Arc} (h : Row n c (a :: r)) (z : Int) (hz : z < a.lo) : look (a :: r) z = none :=
  look_low h z fun x hx => by
    obtain ⟨_, h2, h3⟩ := h.tail
    rcases List.mem_cons.1 hx with rfl | hx
    · exact hz
    · have := h3 x hx; omega
end Au
end Go.Proofs.YthhfmcikfdagiaaDoor

/-
  The program's stretchesOf: the walk.
-/
namespace Go.Proofs.YthhfmcikfdagiaaDoor
open Go.RowKit

set_option maxRecDepth 100000 in
set_option maxHeartbeats 4000000 in
theorem stretches_any (F : Nat → Prop) (w : World) (v : Value) (L : List (List Au.Arc)) (hv : RowsS F w v L) (hL : ∀ l ∈ L, ∀ a ∈ l, Au.byteArc a) (hbig : L.flatten.length ≤ 1099511627776) :
    Calls Tryd.prog 39 #[v] w fun e w' => ∃ u S, e = .returned u ∧ Au.Cut L.flatten 0 S ∧ StrS (fun g => w.heap.size ≤ g) w' u S ∧ Below w.heap.size w w' := by
  obtain ⟨a, cap, rfl, hc1, hc2, hc⟩ := hv
  obtain ⟨n, hn⟩ : ∃ n, n = L.length := ⟨_, rfl⟩
  have hn2 : n ≤ 9223372036854775807 := by omega
  have HC := Lib.hid hc
  have HN := Lib.hid hn
  have HLA := Lib.hid hL
  have HR0 : Hid ((w.alloc (.cells Tryd.zeroCells105 105)).rowIs w.heap.size 105 257 (fun j => .bool (Au.marks [] j))) := by rw [zero257]; exact row_repl w 257 _ _
  have HB0 : Hid (Below w.heap.size w (w.alloc (.cells Tryd.zeroCells105 105))) := (Below.refl _ _).alloc (Nat.le_refl _) _
  rw [← hn]
  clear hc hc1 hn hL
  go_enter Tryd.func39, Tryd.ntmps39
  go_wp2_with fail
  generalize w.alloc (.cells Tryd.zeroCells105 105) = w1 at *
  obtain ⟨B, hB⟩ : ∃ B, w.heap.size = B := ⟨_, rfl⟩
  have hBB : w.heap.size ≤ B := by omega
  simp only [hB] at HR0 HB0 ⊢
  go_loopg [18] n (fun gg vi wx => ∃ i : Nat, i ≤ n ∧ gg = n - i ∧ vi = .int .i64 i ∧ Hid (wx.rowIs B 105 257 (fun j => .bool (Au.marks (L.take i).flatten j))) ∧ Hid (Below B w wx))
  case atStart => exact ⟨0, Nat.zero_le _, rfl, rfl, HR0, HB0⟩
  case round =>
    clear HR0 HB0
    obtain ⟨i, hi, rfl, rfl, hR, hbel⟩ := hrel
    by_cases hin : i < n
    · have j1 : (i : Int) < (n : Int) := by omega
      have hil : i < L.length := by rw [← HN.out]; exact hin
      obtain ⟨g, o, rfl, hg, _, hcl⟩ := HC.out (by omega)
      obtain ⟨va, c1, hva⟩ := hcl i hil
      have e1 := (hbel.out.cell (p := ⟨g, o + i, none⟩) (by rw [← hB]; exact hg)).trans c1
      have hAL : Hid (∀ a ∈ L[i], Au.byteArc a) := HLA.out _ (List.getElem_mem hil)
      have hnx : Hid ((L.take (i + 1)).flatten = (L.take i).flatten ++ L[i]) := by
        show _ = _
        rw [List.take_succ_eq_append_getElem hil, List.flatten_append]
        simp
      generalize L[i] = l at *
      generalize (L.take i).flatten = A at *
      obtain ⟨a2, cap2, rfl, hd1, hd2, hd⟩ := hva
      obtain ⟨m, hm⟩ : ∃ m, m = l.length := ⟨_, rfl⟩
      have hm2 : m ≤ 9223372036854775807 := by omega
      have HD := Lib.hid hd
      have HM := Lib.hid hm
      rw [← hm] at e1
      have hR1 : Hid (wr.rowIs B 105 257 (fun j => .bool (Au.marks (A ++ l.take 0) j))) := by rw [List.take_zero, List.append_nil]; exact hR
      clear c1 hcl hd hd1 hm hR
      go_wp2_with fail
      go_loopg [24] m (fun gg vk wx => ∃ k : Nat, k ≤ m ∧ gg = m - k ∧ vk = .int .i64 k ∧ Hid (wx.rowIs B 105 257 (fun j => .bool (Au.marks (A ++ l.take k) j))) ∧ Hid (Below B w wx))
      case atStart => exact ⟨0, Nat.zero_le _, rfl, rfl, hR1, hbel⟩
      case round =>
        clear hR1 hbel e1
        obtain ⟨k, hk, rfl, rfl, hR, hbel⟩ := hrel
        by_cases hkm : k < m
        · have kl : k < l.length := by rw [← HM.out]; exact hkm
          have j2 : (k : Int) < (m : Int) := by omega
          obtain ⟨g2, o2, rfl, hg2, _, hcl2⟩ := HD.out (by omega)
          obtain ⟨d1, d2, d3⟩ := hcl2 k kl
          have e1 := (hbel.out.cell (p := ⟨g2, o2 + k * 3, none⟩) (by rw [← hB]; exact hg2)).trans d1
          have e2 := (hbel.out.cell (p := ⟨g2, o2 + k * 3 + 1, none⟩) (by rw [← hB]; exact hg2)).trans d2
          have e3 := (hbel.out.cell (p := ⟨g2, o2 + k * 3 + 2, none⟩) (by rw [← hB]; exact hg2)).trans d3
          have hby := hAL.out _ (List.getElem_mem kl)
          have hst : Hid (∀ x, Au.marks (A ++ l.take (k + 1)) x = (Au.marks (A ++ l.take k) x || (decide (l[k].lo = (x : Int)) || decide (l[k].hi + 1 = (x : Int))))) := fun x => by
            rw [List.take_succ_eq_append_getElem kl, ← List.append_assoc, Au.marks_snoc]
          clear d1 d2 d3 hcl2
          generalize l[k] = x at *
          obtain ⟨lo, hi', to⟩ := x
          dsimp only at e1 e2 e3 hst
          obtain ⟨y1, y2, y3⟩ := hby
          dsimp only at y1 y2 y3
          obtain ⟨p, rfl⟩ : ∃ p : Nat, lo = (p : Int) := ⟨lo.toNat, by omega⟩
          obtain ⟨q, rfl⟩ : ∃ q : Nat, hi' = (q : Int) := ⟨hi'.toNat, by omega⟩
          have hR1 := hR.out.alloc (.cells #[.int .i64 (p : Int), .int .i64 (q : Int), .int .i64 to] 63)
          have HB1 : Hid (Below B w (wr.alloc (.cells #[.int .i64 (p : Int), .int .i64 (q : Int), .int .i64 to] 63))) := hbel.out.alloc (by rw [← hB]; exact hbel.out.size) _
          have p1 := hR1.cell (i := p) (by omega)
          have p2 := hR1.frozen p
          have HR3 := (hR.out.set p (.bool true)).alloc (.cells #[.int .i64 (p : Int), .int .i64 (q : Int), .int .i64 to] 63)
          have HR2 : Hid (((((wr.setCell ⟨B, p, none⟩ (.bool true)).setCell ⟨B, q + 1, none⟩ (.bool true)).alloc (.cells #[.int .i64 (p : Int), .int .i64 (q : Int), .int .i64 to] 63)).drew).rowIs B 105 257 (fun j => .bool (Au.marks (A ++ l.take (k + 1)) j))) := by
            refine World.rowIs.congr (World.rowIs.drew (((hR.out.set p (.bool true)).set (q + 1) (.bool true)).alloc _)) fun j _ => ?_
            rw [hst.out]
            by_cases k1 : j = q + 1
            · subst k1
              simp
            · by_cases k2 : j = p
              · subst k2
                simp
              · rw [if_neg k1, if_neg k2]
                have f1 : decide ((p : Int) = (j : Int)) = false := decide_eq_false (by omega)
                have f2 : decide ((q : Int) + 1 = (j : Int)) = false := decide_eq_false (by omega)
                rw [f1, f2]
                simp
          have HB2 : Hid (Below B w ((((wr.setCell ⟨B, p, none⟩ (.bool true)).setCell ⟨B, q + 1, none⟩ (.bool true)).alloc (.cells #[.int .i64 (p : Int), .int .i64 (q : Int), .int .i64 to] 63)).drew)) := by
            refine Below.drew (Below.alloc ?_ ?_ _)
            · exact ((hbel.out.setCell (p := ⟨B, p, none⟩) (Nat.le_refl _) _).setCell (p := ⟨B, q + 1, none⟩) (Nat.le_refl _) _)
            · simp [World.setCell]
              have := hbel.out.size
              omega
          have q1 := HR3.cell (i := q + 1) (by omega)
          have q2 := HR3.frozen (q + 1)
          have hBw : B < wr.heap.size := hR.out.lt
          clear hR hR1 HR3 hst hbel
          go_wp2_with fail
          go_region
          all_goals
            go_wp2_with fail
            go_roundg (m - (k + 1))
            case rel => exact ⟨k + 1, by omega, rfl, by go_num, HR2, HB2⟩
            case measure => omega
        · obtain rfl : k = m := by omega
          have hR2 : Hid (wr.rowIs B 105 257 (fun j => .bool (Au.marks (L.take (i + 1)).flatten j))) := by
            have h := hR.out
            rw [List.take_of_length_le (by rw [← HM.out]; exact Nat.le_refl _), ← hnx.out] at h
            exact h
          clear hR
          go_wp2_with fail
          go_roundg (n - (i + 1))
          case rel => exact ⟨i + 1, by omega, rfl, by go_num, hR2, hbel⟩
          case measure => omega
    · obtain rfl : i = n := by omega
      have hR2 : Hid (wr.rowIs B 105 257 (fun j => .bool (Au.marks L.flatten j))) := by
        have h := hR.out
        rw [List.take_of_length_le (by rw [← HN.out]; exact Nat.le_refl _)] at h
        exact h
      clear hR
      have hBw : B < wr.heap.size := hR2.out.lt
      obtain ⟨C, hC⟩ : ∃ C, wr.heap.size = C := ⟨_, rfl⟩
      obtain ⟨b, hb⟩ : ∃ b, b = Au.marks L.flatten := ⟨_, rfl⟩
      have HBM := Lib.hid hb
      have HR3 : Hid ((wr.alloc (.cells Tryd.zeroCells106 106)).rowIs B 105 257 (fun j => .bool (b j))) := by rw [hb]; exact hR2.out.alloc _
      have HO3 : Hid ((wr.alloc (.cells Tryd.zeroCells106 106)).rowIs C 106 256 (fun j => .int .i64 (if j < 0 then (Au.cnt b j : Int) else 0))) := by rw [zero256, ← hC]; exact row_repl wr 256 _ _
      have HB3 : Hid (Below B w (wr.alloc (.cells Tryd.zeroCells106 106))) := hbel.out.alloc (by omega) _
      have HK : Hid (LoB (fun k => if k = B then 1 else if k = C then 2 else 0) (wr.alloc (.cells Tryd.zeroCells106 106)) B) := fun k _ hk => by
        dsimp only at hk
        split at hk
        · omega
        · split at hk <;> omega
      have hBC : B < C := by omega
      clear hR2 hbel hb
      go_wp2_with fail
      generalize wr.alloc (.cells Tryd.zeroCells106 106) = w2 at *
      have HP0 : Hid (P2 b B C w2 w 0 0 [] (fun k => if k = B then 1 else if k = C then 2 else 0) (.slice none 0 0)) := ⟨rfl, Nat.le_refl _, Au.segs_zero b, (by simp), (by simp; omega), HK.out, RowC.nil _ _ _ _ _, HR3.out, HO3.out, HB3.out⟩
      obtain ⟨ii, hi, hz0, hz1, hz2⟩ := info_parts Tryd.infoStr
      clear HK HR3 HO3 HB3 hC
      go_loopg [8, 37] 256 (fun gg va vi wx => ∃ (c N : Nat) (Z : List (Nat × Nat)) (κ : Nat → Nat) (ad : Option Addr) (cp : Nat), c ≤ 256 ∧ gg = 256 - c ∧ vi = .int .i64 c ∧ va = .slice ad N cp ∧ B ≤ wx.heap.size ∧ Hid (P2 b B C wx w c N Z κ (.slice ad N cp)))
      case atStart => exact ⟨0, 0, [], _, none, 0, Nat.zero_le _, rfl, rfl, rfl, Nat.le_of_lt HP0.out.beg.lt, HP0⟩
      case round =>
        clear HP0
        obtain ⟨c, N, Z, κ, ad, cp, hc, rfl, rfl, rfl, hBr, hP⟩ := hrel
        have hNc := hP.out.le
        have hNl := hP.out.len
        by_cases hcm : c < 256
        · have j1 : (c : Int) < 256 := by omega
          have e1 := hP.out.beg.cell (i := c) (by omega)
          by_cases hbc : c = 0 ∨ b c = true
          · obtain ⟨z1, z2⟩ := Au.segs_new hP.out.segs hbc
            have HD : Hid (∀ g cp w3, RowC (paint κ wr.heap.size 3) 3 w3 82 3 (.slice (some ⟨g, 0, none⟩) (N + 1) cp) (N + 1) (segV Z ++ [.int .i64 (c : Int), .int .i64 0, .slice none 0 0]) → Step κ 3 wr w3 (paint κ wr.heap.size 3) → _) := fun g cp w3 k1 k2 => hP.out.done (lo := c) hcm hBr k2 k1 (by omega) (by omega) z1 z2
            rw [hNl] at HD
            have hAll := Lib.hid hP.out.all
            have hg : ((c : Int) == 0) = true ∨ (((c : Int) == 0) = false ∧ b c = true) := by
              rcases hbc with e | e
              · exact .inl (beq_iff_eq.2 (by omega))
              · by_cases e0 : c = 0
                · exact .inl (beq_iff_eq.2 (by omega))
                · exact .inr ⟨beq_eq_false_iff_ne.2 (by omega), e⟩
            clear hP hbc z1 z2
            rcases hg with g0 | ⟨g0, g1⟩
            rotate_left
            rw [g1] at e1
            all_goals
              go_wp2_with (at_builtin; refine wpList_pushC rfl _ _ 79 82 rfl ii _ 3 40 Tryd.underlying79 hi hz0 hz1 hz2 rfl (by decide) κ 3 _ N (segV Z) rfl hAll.out [.int .i64 (c : Int), .int .i64 0, .slice none 0 0] rfl (one_of rfl) rfl (by omega) (by omega) ?_; intro g2 cp2 w3 hr3 hs3; obtain ⟨⟨k1, k2, k3, k4, k5⟩, hP3⟩ := HD.out g2 cp2 w3 hr3 hs3; have HP3 := Lib.hid hP3; have hB3 : B ≤ w3.heap.size := Nat.le_trans hBr hs3.size; clear hr3 hs3 hP3)
              go_roundg (256 - (c + 1))
              case rel => exact ⟨c + 1, N + 1, _, _, _, cp2, by omega, rfl, by go_num, rfl, (by simpa [World.setCell] using hB3), HP3⟩
              case measure => omega
          · have hc0 : c ≠ 0 := fun e => hbc (.inl e)
            have hbf : b c = false := by
              rw [← Bool.not_eq_true]
              exact fun e => hbc (.inr e)
            obtain ⟨Y, z, rfl, z1, z2⟩ := Au.segs_more hP.out.segs hc0 hbf
            have hYl : Y.length + 1 = N := by rw [← hNl, List.length_append]; rfl
            have hAll := hP.out.all
            obtain ⟨a5, cp5, hv5, _, _, hf5⟩ := hAll.form
            simp only [Value.slice.injEq] at hv5
            obtain ⟨rfl, _, rfl⟩ := hv5
            obtain ⟨g2, rfl, _, _, _, _⟩ := hf5 (by omega)
            rw [segV_snoc] at hAll
            have hD := hP.out.done (lo := z.1) (x := .int .i64 (z.2 : Int)) (Y := Y) (N' := N) (g := g2) (cp := cp) (κ' := κ) hcm hBr ⟨rfl, rfl, rfl, Nat.le_refl _, fun _ _ _ => rfl, fun _ _ => rfl⟩ hAll (by omega) (by omega) z1 (by rw [List.length_append] at z2; simp at z2; omega)
            obtain ⟨⟨k1, k2, k3, k4, k5⟩, hP3⟩ := hD
            have HP3 := Lib.hid hP3
            have g0 : ((c : Int) == 0) = false := beq_eq_false_iff_ne.2 (by omega)
            rw [hbf] at e1
            obtain ⟨yl, hyl⟩ : ∃ yl, Y.length = yl := ⟨_, rfl⟩
            obtain rfl : N = yl + 1 := by omega
            rw [hyl] at HP3 k3 k4 k5
            clear hP hP3 hbc z1 z2 hAll hf5 hNl hYl hbf hc0 hyl
            go_wp2_with fail
            go_roundg (256 - (c + 1))
            case rel => exact ⟨c + 1, yl + 1, _, _, _, cp, by omega, rfl, by go_num, rfl, (by simpa [World.setCell] using hBr), HP3⟩
            case measure => omega
        · obtain rfl : c = 256 := by omega
          obtain ⟨Y0, hY0⟩ : ∃ Y0 : List (Nat × Nat × Value), Y0 = Z.map fun z => (z.1, z.2, Value.slice none 0 0) := ⟨_, rfl⟩
          have H30 : Hid (P3 b C wr w B N Z Y0 (fun _ => []) κ (.slice ad N cp)) := by
            have h := hP.out
            refine ⟨h.kC, h.lo, ?_, ?_, ?_, ?_, h.of.congr fun j hj => by rw [if_pos hj], h.below⟩
            · rw [hY0, List.length_map]; exact h.len
            · rw [hY0, List.map_map]
              show List.map (fun z => (z.1, z.2)) Z = Z
              simp
            · rw [hY0, strV_none]; exact h.all
            · intro i hi
              have : (Y0[i]'hi).2.2 = .slice none 0 0 := by simp only [hY0, List.getElem_map]
              rw [this]
              exact RowC.nil _ _ _ _ _
          have hSg := Lib.hid hP.out.segs
          have hN256 : N ≤ 256 := hP.out.le
          have hBr2 : B ≤ wr.heap.size := hBr
          clear hP hY0
          go_wp2_with fail
          have H31 : Hid (P3 b C wr w B N Z Y0 (Au.tos b (L.take 0).flatten) κ (.slice ad N cp)) := by rw [List.take_zero]; exact H30
          clear H30
          go_loopg [67] i (fun gg vi wx => ∃ (x : Nat) (Y : List (Nat × Nat × Value)) (κ : Nat → Nat), x ≤ i ∧ gg = i - x ∧ vi = .int .i64 x ∧ B ≤ wx.heap.size ∧ Hid (P3 b C wx w B N Z Y (Au.tos b (L.take x).flatten) κ (.slice ad N cp)))
          case atStart => exact ⟨0, _, _, Nat.zero_le _, rfl, rfl, hBr2, H31⟩
          case round =>
            clear H31 hBr2
            obtain ⟨x, Y, κ, hx, rfl, rfl, hBr2, hP⟩ := hrel
            by_cases hxi : x < i
            · have j1 : (x : Int) < (i : Int) := by omega
              have hil : x < L.length := by rw [← HN.out]; exact hxi
              obtain ⟨g, o, rfl, hg, _, hcl⟩ := HC.out (by omega)
              obtain ⟨va, c1, hva⟩ := hcl x hil
              have e1 := (hP.out.below.cell (p := ⟨g, o + x, none⟩) (by rw [← hB]; exact hg)).trans c1
              have hAL : Hid (∀ a ∈ L[x], Au.byteArc a ∧ (a.lo.toNat = 0 ∨ b a.lo.toNat = true) ∧ b (a.hi.toNat + 1) = true) := fun a ha => by
                have h1 := HLA.out _ (List.getElem_mem hil) a ha
                have h2 : a ∈ L.flatten := List.mem_flatten.2 ⟨_, List.getElem_mem hil, ha⟩
                rw [HBM.out]
                exact ⟨h1, .inr (Au.marks_lo h2 h1.1), Au.marks_hi h2 (by have := h1.1; have := h1.2.1; omega)⟩
              have hnx : Hid ((L.take (x + 1)).flatten = (L.take x).flatten ++ L[x]) := by
                show _ = _
                rw [List.take_succ_eq_append_getElem hil, List.flatten_append]
                simp
              have hAn : (L.take x).flatten.length + L[x].length ≤ 1099511627776 := by
                have h1 : ((L.take (x + 1)).flatten).length ≤ L.flatten.length := by
                  have h2 : L.flatten = (L.take (x + 1)).flatten ++ (L.drop (x + 1)).flatten := by rw [← List.flatten_append, List.take_append_drop]
                  rw [h2, List.length_append]
                  omega
                rw [hnx.out, List.length_append] at h1
                omega
              generalize L[x] = l at *
              generalize (L.take x).flatten = A at *
              obtain ⟨a2, cap2, rfl, hd1, hd2, hd⟩ := hva
              obtain ⟨m, hm⟩ : ∃ m, m = l.length := ⟨_, rfl⟩
              have hm2 : m ≤ 9223372036854775807 := by omega
              have HD := Lib.hid hd
              have HM := Lib.hid hm
              rw [← hm] at e1
              have hP1 : Hid (P3 b C wr w B N Z Y (Au.tos b (A ++ l.take 0)) κ (.slice ad N cp)) := by rw [List.take_zero, List.append_nil]; exact hP
              clear c1 hcl hd hd1 hm hP
              go_wp2_with fail
              go_loopg [73] m (fun gg vk wx => ∃ (k : Nat) (Y : List (Nat × Nat × Value)) (κ : Nat → Nat), k ≤ m ∧ gg = m - k ∧ vk = .int .i64 k ∧ B ≤ wx.heap.size ∧ Hid (P3 b C wx w B N Z Y (Au.tos b (A ++ l.take k)) κ (.slice ad N cp)))
              case atStart => exact ⟨0, _, _, Nat.zero_le _, rfl, rfl, hBr2, hP1⟩
              case round =>
                clear hP1 hBr2 e1
                obtain ⟨k, Y, κ, hk, rfl, rfl, hBr2, hP⟩ := hrel
                by_cases hkm : k < m
                · have kl : k < l.length := by rw [← HM.out]; exact hkm
                  have j2 : (k : Int) < (m : Int) := by omega
                  obtain ⟨g2, o2, rfl, hg2, _, hcl2⟩ := HD.out (by omega)
                  obtain ⟨d1, d2, d3⟩ := hcl2 k kl
                  have e1 := (hP.out.below.cell (p := ⟨g2, o2 + k * 3, none⟩) (by rw [← hB]; exact hg2)).trans d1
                  have e2 := (hP.out.below.cell (p := ⟨g2, o2 + k * 3 + 1, none⟩) (by rw [← hB]; exact hg2)).trans d2
                  have e3 := (hP.out.below.cell (p := ⟨g2, o2 + k * 3 + 2, none⟩) (by rw [← hB]; exact hg2)).trans d3
                  obtain ⟨⟨y1, y2, y3⟩, y4, y5⟩ := hAL.out _ (List.getElem_mem kl)
                  have hst : Hid (∀ x, Au.tos b (A ++ l.take (k + 1)) x = if Au.cnt b l[k].lo.toNat ≤ x ∧ x ≤ Au.cnt b l[k].hi.toNat then Au.tos b (A ++ l.take k) x ++ [l[k].to] else Au.tos b (A ++ l.take k) x) := fun x => by
                    rw [List.take_succ_eq_append_getElem kl, ← List.append_assoc, Au.tos_snoc]
                  have hlen : ∀ x, (Au.tos b (A ++ l.take k) x).length ≤ 1099511627776 := fun x => by
                    have := Au.tos_len b (A ++ l.take k) x
                    rw [List.length_append] at this
                    have := List.length_take_le k l
                    omega
                  clear d1 d2 d3 hcl2
                  generalize l[k] = ar at *
                  obtain ⟨lo, hi', to⟩ := ar
                  dsimp only at e1 e2 e3 hst y1 y2 y3
                  obtain ⟨p, rfl⟩ : ∃ p : Nat, lo = (p : Int) := ⟨lo.toNat, by omega⟩
                  obtain ⟨q, rfl⟩ : ∃ q : Nat, hi' = (q : Int) := ⟨hi'.toNat, by omega⟩
                  simp only [Int.toNat_natCast] at hst
                  have q255 : q < 256 := by omega
                  have p255 : p < 256 := by omega
                  have hpq : Au.cnt b p ≤ Au.cnt b q := Au.cnt_le b (by omega)
                  have hqN : Au.cnt b q < N := by
                    have h1 := hSg.out.len
                    rw [if_neg (by omega)] at h1
                    have h2 := Au.cnt_le b (show q ≤ 256 - 1 by omega)
                    omega
                  obtain ⟨D, hDD⟩ : ∃ D, wr.heap.size = D := ⟨_, rfl⟩
                  have sA : Step κ 9 wr (wr.alloc (.cells #[.int .i64 (p : Int), .int .i64 (q : Int), .int .i64 to] 63)) (paint κ wr.heap.size 9) := Step.of_alloc _ _
                  have hP2 := hP.out.step sA (by decide) (by decide) (by decide) (by decide) hBr2
                  have hkD : paint κ wr.heap.size 9 D = 9 := paint_new _ _ _ _ (by omega)
                  generalize paint κ wr.heap.size 9 = κ1 at *
                  have hDb : Hid ((wr.alloc (.cells #[.int .i64 (p : Int), .int .i64 (q : Int), .int .i64 to] 63)).heap[D]? = some (.cells #[.int .i64 (p : Int), .int .i64 (q : Int), .int .i64 to] 63 (0, 0))) := by rw [← hDD]; exact Go.Deep.blk_alloc_new _ _
                  have hBA : B ≤ (wr.alloc (.cells #[.int .i64 (p : Int), .int .i64 (q : Int), .int .i64 to] 63)).heap.size := by simp; omega
                  have f1 := hP2.of.cell (i := p) p255
                  have HP2 := Lib.hid hP2
                  obtain ⟨cq, hcq⟩ : ∃ cq, Au.cnt b q = cq := ⟨_, rfl⟩
                  obtain ⟨cpp, hcpp⟩ : ∃ cpp, Au.cnt b p = cpp := ⟨_, rfl⟩
                  have HCQ := Lib.hid hcq
                  rw [hcq] at hqN
                  rw [hcpp] at f1
                  have hst2 : Hid (∀ x, Au.tos b (A ++ l.take (k + 1)) x = if cpp ≤ x ∧ x ≤ cq then Au.tos b (A ++ l.take k) x ++ [to] else Au.tos b (A ++ l.take k) x) := fun x => by subst hcq; subst hcpp; exact hst.out x
                  rw [hcq, hcpp] at hpq
                  clear hP hP2 sA y4 y5 hst hcq hcpp
                  obtain ⟨T0, hT0⟩ : ∃ T0, T0 = Au.tos b (A ++ l.take k) := ⟨_, rfl⟩
                  rw [← hT0] at hlen HP2 hst2
                  have HP3 : Hid (P3 b C (wr.alloc (.cells #[.int .i64 (p : Int), .int .i64 (q : Int), .int .i64 to] 63)) w B N Z Y (fun i => if cpp ≤ i ∧ i < cpp then T0 i ++ [to] else T0 i) κ1 (.slice ad N cp)) := by
                    have : (fun i => if cpp ≤ i ∧ i < cpp then T0 i ++ [to] else T0 i) = T0 := funext fun i => if_neg (by omega)
                    rw [this]
                    exact HP2
                  clear HP2 hT0
                  obtain ⟨aa, cpa, hva, _, _, hfa⟩ := HP3.out.all.form
                  simp only [Value.slice.injEq] at hva
                  obtain ⟨rfl, _, rfl⟩ := hva
                  obtain ⟨ga, rfl, _⟩ := hfa (by omega)
                  have c9 : (wr.alloc (.cells #[.int .i64 (p : Int), .int .i64 (q : Int), .int .i64 to] 63)).cell? ⟨D, 0, none⟩ = some (.int .i64 (p : Int)) := by have h := hDb.out; simp [World.cell?, h]
                  clear hfa
                  go_wp2_with fail
                  generalize wr.alloc (.cells #[.int .i64 (p : Int), .int .i64 (q : Int), .int .i64 to] 63) = wa at *
                  obtain ⟨i1, hi1, hy0, hy1, hy2⟩ := info_parts Tryd.infoN
                  go_loopg [15] (cq + 1 - cpp) (fun gg vj wx => ∃ (j : Nat) (Y : List (Nat × Nat × Value)) (κ : Nat → Nat), cpp ≤ j ∧ j ≤ cq + 1 ∧ gg = cq + 1 - j ∧ vj = .int .i64 j ∧ B ≤ wx.heap.size ∧ κ D = 9 ∧ Hid (wx.heap[D]? = some (.cells #[.int .i64 (p : Int), .int .i64 (q : Int), .int .i64 to] 63 (0, 0))) ∧ Hid (P3 b C wx w B N Z Y (fun i => if cpp ≤ i ∧ i < j then T0 i ++ [to] else T0 i) κ (.slice (some ⟨ga, 0, none⟩) N cp)))
                  case atStart => exact ⟨cpp, _, _, Nat.le_refl _, by omega, rfl, rfl, hBA, hkD, hDb, HP3⟩
                  case round =>
                    clear HP3 hkD hDb f1 c9 hBA
                    obtain ⟨j, Y, κ, hj1, hj2, rfl, rfl, hBA, hkD, hDb, hP⟩ := hrel
                    have hof := hP.out.of.cell (i := q) q255
                    rw [HCQ.out] at hof
                    have a1 : wr.cell? ⟨D, 1, none⟩ = some (.int .i64 (q : Int)) := by have h := hDb.out; simp [World.cell?, h]
                    have a2 : wr.cell? ⟨D, 2, none⟩ = some (.int .i64 to) := by have h := hDb.out; simp [World.cell?, h]
                    by_cases hjq : j ≤ cq
                    · have j3 : (j : Int) ≤ (cq : Int) := by omega
                      have j4 : (j : Int) < (N : Int) := by omega
                      have hjY : j < Y.length := by rw [hP.out.len]; omega
                      obtain ⟨x1, x2, _, _, x3, x4⟩ := hP.out.all.at
                      obtain ⟨_, _, y3'⟩ := strV_at Y j hjY
                      have r1 := x4 _ _ y3'
                      have hTj : (if cpp ≤ j ∧ j < j then T0 j ++ [to] else T0 j) = T0 j := if_neg (by omega)
                      have hrow := hP.out.to j hjY
                      rw [hTj] at hrow
                      have HROW := Lib.hid hrow
                      have hlj := hlen j
                      have hPU : Hid (∀ g cp' w3, RowC (paint κ wr.heap.size (10 + j)) (10 + j) w3 3 1 (.slice (some ⟨g, 0, none⟩) ((T0 j).length + 1) cp') ((T0 j).length + 1) (intsV (T0 j) ++ [.int .i64 to]) → Step κ (10 + j) wr w3 (paint κ wr.heap.size (10 + j)) → _) := fun g cp' w3 k1 k2 => hP.out.push (n := (T0 j).length + 1) (to := to) hBA hjY (by simp only [hTj]; exact k1) (by simp only [hTj]) k2
                      simp only [hTj] at hPU
                      have hDK : Hid (∀ (κ' : Nat → Nat) w5, Step κ (10 + j) wr w5 κ' → ∀ ga, κ' ga = 3 → ∀ (x : Nat) u, w5.cell? ⟨D, 2, none⟩ = some (.int .i64 to) ∧ κ' D = 9 ∧ (w5.setCell ⟨ga, x, none⟩ u).heap[D]? = some (.cells #[.int .i64 (p : Int), .int .i64 (q : Int), .int .i64 to] 63 (0, 0)) ∧ B ≤ (w5.setCell ⟨ga, x, none⟩ u).heap.size) := fun κ' w5 hs ga hga x u => by
                        have hDl : D < wr.heap.size := (Array.getElem?_eq_some_iff.1 hDb.out).1
                        have h5 := (hs.block D hDl (by rw [hkD]; omega)).trans hDb.out
                        have hkD' : κ' D = 9 := by rw [hs.col D hDl, hkD]
                        refine ⟨by simp [World.cell?, h5], hkD', ?_, ?_⟩
                        · rw [heap_other _ _ _ _ _ (fun e => by rw [e, hga] at hkD'; exact absurd hkD' (by decide))]
                          exact h5
                        · simp only [World.setCell]
                          have := hs.size
                          simp
                          omega
                      have hst3 : Hid (∀ wz Yz κz, P3 b C wz w B N Z Yz (fun i => if i = j then T0 j ++ [to] else if cpp ≤ i ∧ i < j then T0 i ++ [to] else T0 i) κz (.slice (some ⟨ga, 0, none⟩) N cp) → P3 b C wz w B N Z Yz (fun i => if cpp ≤ i ∧ i < j + 1 then T0 i ++ [to] else T0 i) κz (.slice (some ⟨ga, 0, none⟩) N cp)) := fun wz Yz κz h => by
                        have : (fun i => if i = j then T0 j ++ [to] else if cpp ≤ i ∧ i < j then T0 i ++ [to] else T0 i) = (fun i => if cpp ≤ i ∧ i < j + 1 then T0 i ++ [to] else T0 i) := funext fun i => by
                          by_cases e : i = j
                          · subst e
                            rw [if_pos rfl, if_pos (by omega)]
                          · rw [if_neg e]
                            by_cases h2 : cpp ≤ i ∧ i < j
                            · rw [if_pos h2, if_pos (by omega)]
                            · rw [if_neg h2, if_neg (by omega)]
                        rw [← this]
                        exact h
                      have hBE : Hid (Below wr.heap.size wr ((wr.alloc (.cells #[.int .i64 to] 3)).drew)) := ((Below.refl _ _).alloc (Nat.le_refl _) _).drew
                      have hnw : Hid (∀ (x : Nat) (u : Value), [Value.int .i64 to][x]? = some u → ((wr.alloc (.cells #[.int .i64 to] 3)).drew).cell? ((⟨wr.heap.size, 0, none⟩ : Addr).add x) = some u) := fun x u h => new_cells wr [.int .i64 to] _ x u h
                      clear hP hrow y3' x4 x3 hTj
                      generalize Y[j].2.2 = vj at *
                      go_wp2_with fail
                      go_region_law ((refine step_pushC rfl _ _ 22 3 (by rfl) i1 _ 1 8 Tryd.underlying22 hi1 hy0 hy1 hy2 rfl (by decide) κ (10 + j) _ (T0 j).length (intsV (T0 j)) (by rfl) HROW.out hBE.out [.int .i64 to] rfl (one_of rfl) ⟨wr.heap.size, 0, none⟩ hnw.out (by rfl) (by omega) (by omega) ?_; intro g5 cp5 w5 hr5 hs5; obtain ⟨⟨k1, k2⟩, hP5, k4⟩ := hPU.out g5 cp5 w5 hr5 hs5; obtain ⟨k3, hk5, hD5, hB5⟩ := hDK.out _ _ hs5 ga k4 (j * 3 + 2) (.slice (some ⟨g5, 0, none⟩) ((T0 j).length + 1) cp5); have HP5 := Lib.hid (hst3.out _ _ _ hP5); have HD5 := Lib.hid hD5; clear hr5 hs5 hP5 hD5))
                      all_goals
                        go_wp2_with fail
                        go_roundg (cq + 1 - (j + 1))
                        case rel => exact ⟨j + 1, _, _, by omega, by omega, rfl, by go_num, hB5, hk5, HD5, HP5⟩
                        case measure => omega
                    · have hjq' : j = cq + 1 := by omega
                      subst hjq'
                      have j3 : ¬ ((cq + 1 : Nat) : Int) ≤ (cq : Int) := by omega
                      have hP6 : Hid (P3 b C wr w B N Z Y (Au.tos b (A ++ l.take (k + 1))) κ (.slice (some ⟨ga, 0, none⟩) N cp)) := by
                        have : (fun i => if cpp ≤ i ∧ i < cq + 1 then T0 i ++ [to] else T0 i) = Au.tos b (A ++ l.take (k + 1)) := funext fun i => by
                          rw [hst2.out]
                          by_cases h : cpp ≤ i ∧ i ≤ cq
                          · rw [if_pos h, if_pos (by omega)]
                          · rw [if_neg h, if_neg (by omega)]
                        rw [← this]
                        exact hP
                      clear hP
                      go_wp2_with fail
                      go_roundg (m - (k + 1))
                      case rel => exact ⟨k + 1, _, _, by omega, rfl, by go_num, hBA, hP6⟩
                      case measure => omega
                · obtain rfl : k = m := by omega
                  have hR2 : Hid (P3 b C wr w B N Z Y (Au.tos b (L.take (x + 1)).flatten) κ (.slice ad N cp)) := by
                    have h := hP.out
                    rw [List.take_of_length_le (by rw [← HM.out]; exact Nat.le_refl _), ← hnx.out] at h
                    exact h
                  clear hP
                  go_wp2_with fail
                  go_roundg (i - (x + 1))
                  case rel => exact ⟨x + 1, _, _, by omega, rfl, by go_num, hBr2, hR2⟩
                  case measure => omega
            · obtain rfl : x = i := by omega
              have hP2 := hP.out
              rw [List.take_of_length_le (by rw [← HN.out]; exact Nat.le_refl _)] at hP2
              obtain ⟨aa, cpa, hva, _, _, hfa⟩ := hP2.all.form
              simp only [Value.slice.injEq] at hva
              obtain ⟨rfl, _, rfl⟩ := hva
              have hN0 : 0 < N := by
                have h1 := hSg.out.len
                rw [if_neg (by omega)] at h1
                omega
              obtain ⟨ga, rfl, _⟩ := hfa hN0
              have hYt : ∀ y ∈ Y, isTo y.2.2 := fun y hy => by
                obtain ⟨j, hj, rfl⟩ := List.getElem_of_mem hy
                obtain ⟨a7, c7, h7, h8, h9, _⟩ := (hP2.to j hj).form
                exact ⟨a7, _, c7, h7, by omega⟩
              have HDF := Lib.hid (deleteFunc_any κ wr ga N cp Y hP2.len hP2.all hYt)
              rw [HBM.out] at hP2 hSg
              have HF : Hid (∀ e w', Deleted wr ga cp Y e w' → ∃ u S, e = .returned u ∧ Au.Cut L.flatten 0 S ∧ StrS (fun g => w.heap.size ≤ g) w' u S ∧ Below w.heap.size w w') := fun e w' hd => hP2.done hSg.out HLA.out hB.symm hBr2 hd
              clear hP hP2 hfa hYt
              go_wp2_with fail
              refine HDF.out.mono ?_
              intro e w8 hd
              obtain ⟨u8, S8, rfl, h81, h82, h83⟩ := HF.out e w8 hd
              have H81 := Lib.hid h81
              have H82 := Lib.hid h82
              have H83 := Lib.hid h83
              clear hd h81 h82 h83
              go_wp2_with fail
              go_ret
              exact ⟨_, S8, rfl, H81.out, by first | exact H82.out | (rw [← hB]; exact H82.out), by first | exact H83.out | (rw [← hB]; exact H83.out)⟩
end Go.Proofs.YthhfmcikfdagiaaDoor

/-
  '&', '|' and '&^' by a number whose low bits are set alone, of an int that is not negative; no program is named here.
-/
namespace Go.Proofs.YthhfmcikfdagiaaDoor.Sp

theorem nat_or_mask (x k : Nat) : x ||| (2 ^ k - 1) = x - x % 2 ^ k + (2 ^ k - 1) := by
  have hp : 0 < 2 ^ k := Nat.two_pow_pos k
  have hm : x % 2 ^ k < 2 ^ k := Nat.mod_lt _ hp
  have hd : 2 ^ k * (x / 2 ^ k) + x % 2 ^ k = x := Nat.div_add_mod x (2 ^ k)
  have e1 : x - x % 2 ^ k + (2 ^ k - 1) = 2 ^ k * (x / 2 ^ k) + (2 ^ k - 1) := by omega
  rw [e1]
  apply Nat.eq_of_testBit_eq
  intro i
  rw [Nat.testBit_two_pow_mul_add _ (by omega), Nat.testBit_or, Nat.testBit_two_pow_sub_one]
  by_cases h : i < k
  · simp [h]
  · simp only [h, decide_false, Bool.or_false, if_false]
    rw [Nat.testBit_div_two_pow, Nat.sub_add_cancel (by omega)]
theorem nat_clear (x k : Nat) (hx : x < 2 ^ 64) (_hk : k ≤ 64) : x &&& (2 ^ 64 - 1 - (2 ^ k - 1)) = x - x % 2 ^ k := by
  have hp : 0 < 2 ^ k := Nat.two_pow_pos k
  have hd : 2 ^ k * (x / 2 ^ k) + x % 2 ^ k = x := Nat.div_add_mod x (2 ^ k)
  have hk2 : 2 ^ k ≤ 2 ^ 64 := Nat.pow_le_pow_right (by omega) _hk
  have e1 : x - x % 2 ^ k = 2 ^ k * (x / 2 ^ k) + 0 := by omega
  rw [e1]
  apply Nat.eq_of_testBit_eq
  intro i
  have e2 : 2 ^ 64 - 1 - (2 ^ k - 1) = 2 ^ 64 - ((2 ^ k - 1) + 1) := by omega
  rw [Nat.testBit_two_pow_mul_add _ (by omega), Nat.testBit_and, e2, Nat.testBit_two_pow_sub_succ (by omega), Nat.testBit_two_pow_sub_one, Nat.zero_testBit]
  by_cases h : i < k
  · simp [h]
  · simp only [h, decide_false, Bool.not_false, Bool.and_true, if_false]
    rw [Nat.testBit_div_two_pow, Nat.sub_add_cancel (by omega)]
    by_cases h6 : i < 64
    · simp [h6]
    · have : x.testBit i = false := Nat.testBit_lt_two_pow (Nat.lt_of_lt_of_le hx (Nat.pow_le_pow_right (by omega) (by omega)))
      simp [this]
theorem wrap_small (n : Nat) (h : n < 9223372036854775808) : IntKind.i64.wrap (n : Int) = (n : Int) := by
  rw [IntKind.wrap_i64]
  omega
theorem ofInt_nat (n : Nat) (h : n < 2 ^ 64) : (BitVec.ofInt 64 (n : Int)).toNat = n := by
  rw [BitVec.ofInt_natCast, BitVec.toNat_ofNat]
  exact Nat.mod_eq_of_lt h
theorem and_nat (x k : Nat) (hx : x < 2 ^ 40) (hk : k ≤ 40) : bits .and .i64 (x : Int) ((2 ^ k - 1 : Nat) : Int) = ((x % 2 ^ k : Nat) : Int) := by
  have hk2 : 2 ^ k ≤ 2 ^ 40 := Nat.pow_le_pow_right (by omega) hk
  show IntKind.i64.wrap ((BitVec.ofInt 64 (x : Int) &&& BitVec.ofInt 64 ((2 ^ k - 1 : Nat) : Int)).toNat : Int) = _
  rw [BitVec.toNat_and, ofInt_nat x (by omega), ofInt_nat _ (by omega), Nat.and_two_pow_sub_one_eq_mod]
  exact wrap_small _ (Nat.lt_of_le_of_lt (Nat.mod_le _ _) (by omega))
theorem or_nat (x k : Nat) (hx : x < 2 ^ 40) (hk : k ≤ 40) : bits .or .i64 (x : Int) ((2 ^ k - 1 : Nat) : Int) = ((x - x % 2 ^ k + (2 ^ k - 1) : Nat) : Int) := by
  have hk2 : 2 ^ k ≤ 2 ^ 40 := Nat.pow_le_pow_right (by omega) hk
  show IntKind.i64.wrap ((BitVec.ofInt 64 (x : Int) ||| BitVec.ofInt 64 ((2 ^ k - 1 : Nat) : Int)).toNat : Int) = _
  rw [BitVec.toNat_or, ofInt_nat x (by omega), ofInt_nat _ (by omega), nat_or_mask]
  exact wrap_small _ (by omega)
theorem clear_nat (x k : Nat) (hx : x < 2 ^ 40) (hk : k ≤ 40) : bits .andNot .i64 (x : Int) ((2 ^ k - 1 : Nat) : Int) = ((x - x % 2 ^ k : Nat) : Int) := by
  have hk2 : 2 ^ k ≤ 2 ^ 40 := Nat.pow_le_pow_right (by omega) hk
  show IntKind.i64.wrap ((BitVec.ofInt 64 (x : Int) &&& ~~~ BitVec.ofInt 64 ((2 ^ k - 1 : Nat) : Int)).toNat : Int) = _
  rw [BitVec.toNat_and, BitVec.toNat_not, ofInt_nat x (by omega), ofInt_nat _ (by omega), nat_clear x k (by omega) (by omega)]
  exact wrap_small _ (by omega)
theorem and_int (x : Int) (k m : Nat) (hm : m = 2 ^ k) (h0 : 0 ≤ x) (h1 : x < 1099511627776) (hk : k ≤ 40) : bits .and .i64 x ((m : Int) - 1) = x % m := by
  obtain ⟨n, rfl⟩ : ∃ n : Nat, x = n := ⟨x.toNat, by omega⟩
  have hp : 0 < 2 ^ k := Nat.two_pow_pos k
  have := and_nat n k (by omega) hk
  rw [show ((m : Int) - 1) = ((2 ^ k - 1 : Nat) : Int) by omega, this, hm]
  simp
theorem or_int (x : Int) (k m : Nat) (hm : m = 2 ^ k) (h0 : 0 ≤ x) (h1 : x < 1099511627776) (hk : k ≤ 40) : bits .or .i64 x ((m : Int) - 1) = x - x % m + ((m : Int) - 1) := by
  obtain ⟨n, rfl⟩ : ∃ n : Nat, x = n := ⟨x.toNat, by omega⟩
  have hp : 0 < 2 ^ k := Nat.two_pow_pos k
  have hl := Nat.mod_le n (2 ^ k)
  have := or_nat n k (by omega) hk
  rw [show ((m : Int) - 1) = ((2 ^ k - 1 : Nat) : Int) by omega, this, hm]
  rw [Int.natCast_add, Int.natCast_sub hl, Int.natCast_emod]
theorem clear_int (x : Int) (k m : Nat) (hm : m = 2 ^ k) (h0 : 0 ≤ x) (h1 : x < 1099511627776) (hk : k ≤ 40) : bits .andNot .i64 x ((m : Int) - 1) = x - x % m := by
  obtain ⟨n, rfl⟩ : ∃ n : Nat, x = n := ⟨x.toNat, by omega⟩
  have hp : 0 < 2 ^ k := Nat.two_pow_pos k
  have hl := Nat.mod_le n (2 ^ k)
  have := clear_nat n k (by omega) hk
  rw [show ((m : Int) - 1) = ((2 ^ k - 1 : Nat) : Int) by omega, this, hm]
  rw [Int.natCast_sub hl, Int.natCast_emod]
end Go.Proofs.YthhfmcikfdagiaaDoor.Sp

/-
  What the walks share: slices of numbers and of bytes in memory, wherever they lie or the call's own.
-/
namespace Go.Proofs.YthhfmcikfdagiaaDoor
open Go.RowKit

theorem Tryd.infoB5 : (Tryd.prog.info? 5).map (fun i => (i.zero, i.size, i.bytes)) = some (some (.int .u8 0), 1, 1) := by kernel_rfl

theorem Tryd.infoI : (Tryd.prog.info? 3).map (fun i => (i.zero, i.size, i.bytes)) = some (some (.int .i64 0), 1, 8) := by kernel_rfl
/-- Bytes as cells. -/
def bytesV5 (l : List UInt8) : List Value := l.map (fun c => .int .u8 (c.toNat : Int))
theorem bytesV_length5 (l : List UInt8) : (bytesV5 l).length = l.length := by simp [bytesV5]

/-- The slice v is the call's own, from block B on, and holds these bytes. -/
def OwnB5 (w : World) (B : Nat) (v : Value) (l : List UInt8) : Prop := w.ownsRow B 5 1 v l.length (bytesV5 l)

theorem own_conv5 {w : World} {B : Nat} {v : Value} {l : List UInt8} (h : OwnB5 w B v l) :
    (convert 99 9 v).run Tryd.prog w = .ok (.string ⟨l.toArray⟩) w := by
  have hown : w.ownsRow B 5 1 v l.length (bytesV5 l) := h
  rcases h.2 with ⟨rfl, h0⟩ | ⟨g, cap, cur, rfl, hg, hh, hnc, hcp, hcs, htake⟩
  · obtain rfl : l = [] := List.length_eq_zero_iff.1 h0
    rw [run_convert_bytes_string w 99 9 5 none 0 0 Tryd.underlying99 Tryd.underlying5 Tryd.underlying9]
    simp [Conv.bytesToString]
    rfl
  · have hcells : ∀ j (hj : j < l.length), w.cell? ((⟨g, 0, none⟩ : Addr).add j) = some (.int .u8 (l[j].toNat : Int)) := fun j hj => by
      rw [Addr.add_lit, Nat.zero_add, hown.cellAt j (by omega)]
      simp [bytesV5, hj]
    exact run_convert_bytes_back (P := Tryd.prog) w 99 9 5 ⟨g, 0, none⟩ cap l Tryd.underlying99 Tryd.underlying5 Tryd.underlying9 hcells

/-- Numbers as cells. -/
def intsV5 (l : List Int) : List Value := l.map (fun c => .int .i64 c)
theorem intsV_snoc5 (l : List Int) (c : Int) : intsV5 l ++ [.int .i64 c] = intsV5 (l ++ [c]) := by simp [intsV5]
/-- The slice v is the call's own, from block B on, and holds these numbers. -/
def OwnI (w : World) (B : Nat) (v : Value) (l : List Int) : Prop := w.ownsRow B 3 1 v l.length (intsV5 l)
/-- Behind an append of one number. -/
theorem ownI_push {w wr w1 : World} {B : Nat} {v v' : Value} {l : List Int} {c : Int} {o : Obj} (hB : B ≤ wr.heap.size) (h : OwnI wr B v l) (hb : Below B w wr)
    (h1 : w1.ownsRow B 3 1 v' (l.length + 1) (intsV5 l ++ [.int .i64 c])) (hg : (wr.alloc o).grownBy w1 v.ownBlock) :
    OwnI w1 B v' (l ++ [c]) ∧ Below B w w1 := by
  have hown : wr.ownsRow B 3 1 v l.length (intsV5 l) := h
  refine ⟨?_, (hb.alloc hB o).grown hg (by simp; omega) (fun j hj => (hown.lt j hj).1)⟩
  unfold OwnI
  rw [intsV_snoc5] at h1
  simpa using h1
/-- An own slice, its cells told one by one. -/
theorem ownI_cells {w : World} {B : Nat} {v : Value} {l : List Int} (h : OwnI w B v l) : ∃ a cap, v = .slice a l.length cap ∧ (0 < l.length → ∃ g, a = some ⟨g, 0, none⟩ ∧ g < w.heap.size ∧ ∀ j (hj : j < l.length), w.cell? ⟨g, j, none⟩ = some (.int .i64 l[j])) := by
  have hown : w.ownsRow B 3 1 v l.length (intsV5 l) := h
  rcases h.2 with ⟨rfl, h0⟩ | ⟨g, cap, cur, rfl, hg, hh, hnc, hcp, hcs, htake⟩
  · exact ⟨none, 0, by rw [h0], fun h => by omega⟩
  · refine ⟨_, _, rfl, fun h => ⟨g, rfl, (hown.lt g rfl).2, fun j hj => ?_⟩⟩
    rw [hown.cellAt j (by omega)]
    simp [intsV5, hj]

/-- The value v is a slice of these numbers. -/
def IntS (w : World) (v : Value) (xs : List Int) : Prop :=
  ∃ a cap, v = .slice a xs.length cap ∧ xs.length ≤ cap ∧ cap ≤ 9223372036854775807 ∧ (0 < xs.length → ∃ g o, a = some ⟨g, o, none⟩ ∧ g < w.heap.size ∧ ∀ j (_ : j < xs.length), w.cell? ⟨g, o + j, none⟩ = some (.int .i64 xs[j]))
theorem IntS.below {w w' : World} {B : Nat} {v : Value} {xs : List Int} (h : IntS w v xs) (hb : Below B w w') (hB : w.heap.size ≤ B) : IntS w' v xs := by
  obtain ⟨a, cap, h1, h2, h3, h4⟩ := h
  refine ⟨a, cap, h1, h2, h3, fun h0 => ?_⟩
  obtain ⟨g, o, h5, h6, h7⟩ := h4 h0
  exact ⟨g, o, h5, Nat.lt_of_lt_of_le h6 hb.size, fun j hj => (hb.cell (p := ⟨g, o + j, none⟩) (Nat.lt_of_lt_of_le h6 hB)).trans (h7 j hj)⟩
theorem OwnI.ints {w : World} {B : Nat} {v : Value} {l : List Int} (h : OwnI w B v l) (_ : l.length ≤ 140737488355328) : IntS w v l := by
  rcases h.2 with ⟨rfl, h0⟩ | ⟨g, cap, cur, rfl, hg, hh, hnc, hcp, hcs, htake⟩
  · exact ⟨none, 0, by rw [h0], by omega, by omega, fun h => by omega⟩
  · have hown : w.ownsRow B 3 1 (.slice (some ⟨g, 0, none⟩) l.length cap) l.length (intsV5 l) := h
    refine ⟨_, cap, rfl, hnc, by unfold maxLen at hcp; omega, fun h => ⟨g, 0, rfl, (hown.lt g rfl).2, fun j hj => ?_⟩⟩
    rw [Nat.zero_add, hown.cellAt j (by omega)]
    simp [intsV5, hj]
theorem OwnI.keep {w w' : World} {B B' : Nat} {v : Value} {l : List Int} (h : OwnI w B v l) (hb : Below B' w w') (hB : w.heap.size ≤ B') : OwnI w' B v l := by
  have hown : w.ownsRow B 3 1 v l.length (intsV5 l) := h
  refine ⟨h.1, ?_⟩
  rcases h.2 with ⟨h1, h2⟩ | ⟨g, cap, cur, h1, hg, hh, hnc, hcp, hcs, htake⟩
  · exact .inl ⟨h1, h2⟩
  · have hlt : g < w.heap.size := (hown.lt g (by rw [h1]; rfl)).2
    exact .inr ⟨g, cap, cur, h1, hg, (hb.block g (Nat.lt_of_lt_of_le hlt hB)).trans hh, hnc, hcp, hcs, htake⟩
/-- A slice that a call has just laid. -/
theorem ints_lit (w : World) (zs : List Int) (h0 : zs.length ≤ 9223372036854775807) : IntS (w.alloc (.cells (intsV5 zs).toArray 3)) (.slice (some ⟨w.heap.size, 0, none⟩) zs.length zs.length) zs := by
  refine ⟨_, zs.length, rfl, Nat.le_refl _, h0, fun _ => ⟨w.heap.size, 0, rfl, by simp, fun j hj => ?_⟩⟩
  rw [Nat.zero_add, World.cell?_alloc_at _ _ _ _ rfl]
  simp [intsV5, hj]
end Go.Proofs.YthhfmcikfdagiaaDoor

/-
  What turn and endOfRow answer.
-/
namespace Go.Proofs.YthhfmcikfdagiaaDoor
open Go.RowKit

namespace Sp
theorem pw_nat (t : Nat) : pw t = ((2 ^ (6 * t) : Nat) : Int) := by
  unfold pw
  rw [Nat.pow_mul]
  simp
theorem pw_le (t : Nat) (h : t ≤ 3) : 1 ≤ pw t ∧ pw t ≤ 262144 := ⟨pw_pos t, (pw_cases t 3 (by omega) h).1⟩
theorem and_pw (x : Int) (t : Nat) (ht : t ≤ 3) (h0 : 0 ≤ x) (h1 : x < 1099511627776) : bits .and .i64 x (pw t - 1) = x % pw t := by
  rw [pw_nat]
  exact and_int x (6 * t) _ rfl h0 h1 (by omega)
theorem or_pw (x : Int) (t : Nat) (ht : t ≤ 3) (h0 : 0 ≤ x) (h1 : x < 1099511627776) : bits .or .i64 x (pw t - 1) = x - x % pw t + (pw t - 1) := by
  rw [pw_nat]
  exact or_int x (6 * t) _ rfl h0 h1 (by omega)
theorem clear_pw (x : Int) (t : Nat) (ht : t ≤ 3) (h0 : 0 ≤ x) (h1 : x < 1099511627776) : bits .andNot .i64 x (pw t - 1) = x - x % pw t := by
  rw [pw_nat]
  exact clear_int x (6 * t) _ rfl h0 h1 (by omega)
end Sp
namespace Sp
theorem endOf_lt {c last : Int} {tails t : Nat} (h : turns c last tails 0 = t) (ht : t < tails) : endOf c last tails = (min last (c - c % pw (t + 1) + (pw (t + 1) - 1)) + 1) - (min last (c - c % pw (t + 1) + (pw (t + 1) - 1)) + 1) % pw t - 1 := by
  unfold endOf
  rw [h]
  dsimp only
  rw [if_pos ht]
theorem endOf_eq {c last : Int} {tails t : Nat} (h : turns c last tails 0 = t) (ht : ¬ t < tails) : endOf c last tails = (last + 1) - (last + 1) % pw t - 1 := by
  unfold endOf
  rw [h]
  dsimp only
  rw [if_neg ht]
end Sp
theorem ret_iY {a b : Int} (h : a = b) : Ending.returned (.int .i64 a) = .returned (.int .i64 b) := by rw [h]
theorem turn_any (t : Nat) (ht : t ≤ 3) (w : World) : Calls Tryd.prog 85 #[.int .i64 t] w fun e w' => e = .returned (.int .i64 (Sp.pw t - 1)) ∧ w = w' := by
  have h : t = 0 ∨ t = 1 ∨ t = 2 ∨ t = 3 := by omega
  clear ht
  rcases h with rfl | rfl | rfl | rfl
  all_goals
    go_enter Tryd.func85, Tryd.ntmps85
    go_wp2_with fail
    go_ret
    exact ⟨ret_iY (by decide +kernel), rfl⟩

set_option maxRecDepth 100000 in
set_option maxHeartbeats 2000000 in
theorem endOf_any (c last : Int) (tails : Nat) (w : World) (h0 : 0 ≤ c) (hc : c ≤ last) (hl : last ≤ 1114111) (ht : tails ≤ 3) :
    Calls Tryd.prog 65 #[.int .i64 c, .int .i64 last, .int .i64 tails] w fun e w' => e = .returned (.int .i64 (Sp.endOf c last tails)) ∧ w = w' := by
  go_enter Tryd.func65, Tryd.ntmps65
  go_wp2_with fail
  go_loop [7] (fun i => ∃ t : Nat, t ≤ tails ∧ i = .int .i64 t ∧ Hid (Sp.turns c last tails 0 = Sp.turns c last (tails - t) t)) (fun i => tails - (intOf i).toNat)
  case atStart => exact ⟨0, Nat.zero_le _, rfl, rfl⟩
  case round =>
    obtain ⟨t, htl, rfl, hT⟩ := hrel
    by_cases hlt : t < tails
    · have i1 : (t : Int) < (tails : Int) := by omega
      have ht3 : t + 1 ≤ 3 := by omega
      have hand := Sp.and_pw c (t + 1) ht3 h0 (by omega)
      have hor := Sp.or_pw c (t + 1) ht3 h0 (by omega)
      obtain ⟨p1, p2⟩ := Sp.pw_le (t + 1) ht3
      have hm0 := Int.emod_nonneg c (show Sp.pw (t + 1) ≠ 0 by omega)
      have hm1 := Int.emod_lt_of_pos c (show 0 < Sp.pw (t + 1) by omega)
      have H : Hid (Calls Tryd.prog 85 #[.int .i64 ((t : Int) + 1)] w fun e w' => e = .returned (.int .i64 (Sp.pw (t + 1) - 1)) ∧ w = w') := by
        have := turn_any (t + 1) ht3 w
        rw [Int.natCast_succ] at this
        exact Lib.hid this
      obtain ⟨m, hm⟩ : ∃ m, tails - t = m + 1 := ⟨tails - t - 1, by omega⟩
      have hstep : Sp.turns c last (m + 1) t = if c % Sp.pw (t + 1) = 0 ∧ c + (Sp.pw (t + 1) - 1) ≤ last then Sp.turns c last m (t + 1) else t := rfl
      have hm2 : tails - (t + 1) = m := by omega
      have HT : Hid (c % Sp.pw (t + 1) = 0 ∧ c + (Sp.pw (t + 1) - 1) ≤ last → Sp.turns c last tails 0 = Sp.turns c last (tails - (t + 1)) (t + 1)) := by
        intro hh
        rw [hT.out, hm, hstep, if_pos hh, hm2]
      have HN : Hid (¬ (c % Sp.pw (t + 1) = 0 ∧ c + (Sp.pw (t + 1) - 1) ≤ last) → Sp.turns c last tails 0 = t) := by
        intro hh
        rw [hT.out, hm, hstep, if_neg hh]
      clear hm hstep hm2 hT
      by_cases hz : c % Sp.pw (t + 1) = 0
      · by_cases hle : c + (Sp.pw (t + 1) - 1) ≤ last
        · have hT2 : Hid (Sp.turns c last tails 0 = Sp.turns c last (tails - (t + 1)) (t + 1)) := HT.out ⟨hz, hle⟩
          rw [hz] at hand hor
          rw [Int.sub_zero] at hor
          clear hz hm0 hm1 HT HN
          generalize Sp.pw (t + 1) = P at *
          go_wp2_with (go_at_call 85; refine H.out.mono ?_; rintro e w' ⟨rfl, rfl⟩)
          go_round
          case rel => exact ⟨t + 1, by omega, by go_num, hT2⟩
          case measure => simp [intOf]; omega
        · have hfin : Hid (Sp.turns c last tails 0 = t) := HN.out (fun h => hle h.2)
          rw [hz] at hand hor
          rw [Int.sub_zero] at hor
          clear HT HN
          obtain ⟨q1, q2⟩ := Sp.pw_le t (by omega)
          have H0 := Lib.hid (turn_any t (by omega) w)
          have hE := Sp.endOf_lt hfin.out hlt
          skip
          clear hfin
          by_cases hmin : last ≤ c + (Sp.pw (t + 1) - 1)
          · rw [show min last (c - c % Sp.pw (t + 1) + (Sp.pw (t + 1) - 1)) = last by omega] at hE
            have hcl := Sp.clear_pw (last + 1) t (by omega) (by omega) (by omega)
            have HF := Lib.hid hE
            have hn0 := Int.emod_nonneg (last + 1) (show Sp.pw t ≠ 0 by omega)
            have hn1 := Int.emod_lt_of_pos (last + 1) (show 0 < Sp.pw t by omega)
            clear hE hz hm0 hm1
            generalize Sp.pw (t + 1) = P at *
            generalize Sp.pw t = R at *
            skip
            go_wp2_with (go_at_call 85; first | (refine H.out.mono ?_; rintro e w' ⟨rfl, rfl⟩) | (refine H0.out.mono ?_; rintro e w' ⟨rfl, rfl⟩))
            go_ret
            exact ⟨ret_iY HF.out.symm, rfl⟩
          · exact absurd (show c + (Sp.pw (t + 1) - 1) ≤ last by omega) hle
      · have hfin : Hid (Sp.turns c last tails 0 = t) := HN.out (fun h => hz h.1)
        have hz1 : (c % Sp.pw (t + 1) == 0) = false := by simpa using hz
        clear HT HN
        obtain ⟨q1, q2⟩ := Sp.pw_le t (by omega)
        have H0 := Lib.hid (turn_any t (by omega) w)
        have hE := Sp.endOf_lt hfin.out hlt
        skip
        clear hfin
        by_cases hmin : last ≤ c - c % Sp.pw (t + 1) + (Sp.pw (t + 1) - 1)
        · rw [show min last (c - c % Sp.pw (t + 1) + (Sp.pw (t + 1) - 1)) = last by omega] at hE
          have hcl := Sp.clear_pw (last + 1) t (by omega) (by omega) (by omega)
          have HF := Lib.hid hE
          have hn0 := Int.emod_nonneg (last + 1) (show Sp.pw t ≠ 0 by omega)
          have hn1 := Int.emod_lt_of_pos (last + 1) (show 0 < Sp.pw t by omega)
          clear hE hz
          generalize Sp.pw (t + 1) = P at *
          generalize Sp.pw t = R at *
          generalize c % P = cm at *
          go_wp2_with (go_at_call 85; first | (refine H.out.mono ?_; rintro e w' ⟨rfl, rfl⟩) | (refine H0.out.mono ?_; rintro e w' ⟨rfl, rfl⟩))
          go_ret
          exact ⟨ret_iY HF.out.symm, rfl⟩
        · rw [show min last (c - c % Sp.pw (t + 1) + (Sp.pw (t + 1) - 1)) = c - c % Sp.pw (t + 1) + (Sp.pw (t + 1) - 1) by omega] at hE
          have hcl := Sp.clear_pw (c - c % Sp.pw (t + 1) + (Sp.pw (t + 1) - 1) + 1) t (by omega) (by omega) (by omega)
          have HF := Lib.hid hE
          have hn0 := Int.emod_nonneg (c - c % Sp.pw (t + 1) + (Sp.pw (t + 1) - 1) + 1) (show Sp.pw t ≠ 0 by omega)
          have hn1 := Int.emod_lt_of_pos (c - c % Sp.pw (t + 1) + (Sp.pw (t + 1) - 1) + 1) (show 0 < Sp.pw t by omega)
          clear hE hz
          generalize Sp.pw (t + 1) = P at *
          generalize Sp.pw t = R at *
          generalize c % P = cm at *
          go_wp2_with (go_at_call 85; first | (refine H.out.mono ?_; rintro e w' ⟨rfl, rfl⟩) | (refine H0.out.mono ?_; rintro e w' ⟨rfl, rfl⟩))
          go_ret
          exact ⟨ret_iY HF.out.symm, rfl⟩
    · have hfin : Hid (Sp.turns c last tails 0 = t) := by
        show _ = _
        rw [hT.out, show tails - t = 0 by omega]
        rfl
      have H0 := Lib.hid (turn_any t (by omega) w)
      have H := H0
      obtain ⟨q1, q2⟩ := Sp.pw_le t (by omega)
      have hE := Sp.endOf_eq hfin.out hlt
      have hcl := Sp.clear_pw (last + 1) t (by omega) (by omega) (by omega)
      have HF := Lib.hid hE
      have hn0 := Int.emod_nonneg (last + 1) (show Sp.pw t ≠ 0 by omega)
      have hn1 := Int.emod_lt_of_pos (last + 1) (show 0 < Sp.pw t by omega)
      clear hfin hT hE
      generalize Sp.pw t = R at *
      go_wp2_with (go_at_call 85; first | (refine H.out.mono ?_; rintro e w' ⟨rfl, rfl⟩) | (refine H0.out.mono ?_; rintro e w' ⟨rfl, rfl⟩))
      go_ret
      exact ⟨ret_iY HF.out.symm, rfl⟩
end Go.Proofs.YthhfmcikfdagiaaDoor

/-
  The small functions: which numbers are characters, which stand in words, what they are folded to; the program's and the document's own.
-/
namespace Go.Proofs.YthhfmcikfdagiaaDoor
open Go.RowKit

namespace Ut
/-- A number is in one of the ranges. -/
def among (c : Int) : List Int → Bool
  | a :: b :: r => decide (a ≤ c ∧ c ≤ b) || among c r
  | _ => false
/-- A number stands in words. -/
def letter (c : Int) : Bool := among c [97, 122, 65, 90, 48, 57, 192, 214, 216, 246, 248, 591, 880, 893, 895, 1153, 1155, 1327, 19968, 40959]
/-- What a number is folded to. -/
def fold (c : Int) : Int :=
  if among c [65, 90, 192, 214, 216, 222, 913, 929, 931, 937, 1040, 1071] = true then c + 32
  else if 1024 ≤ c ∧ c ≤ 1039 then c + 80 else if c = 962 then 963 else c
theorem fold_far (c : Int) (h : c < 0 ∨ 1071 < c) : fold c = c := by
  have hn : among c [65, 90, 192, 214, 216, 222, 913, 929, 931, 937, 1040, 1071] = false := by
    simp only [among, Bool.or_eq_false_iff, decide_eq_false_iff_not]
    refine ⟨?_, ?_, ?_, ?_, ?_, ?_, trivial⟩ <;> omega
  unfold fold
  rw [hn, if_neg Bool.false_ne_true, if_neg (by omega), if_neg (by omega)]
theorem fold_near : ∀ n : Fin 1072, ((n.val : Int) ≤ fold (n.val : Int) ∧ fold (n.val : Int) ≤ (n.val : Int) + 80) ∧ fold (fold (n.val : Int)) = fold (n.val : Int) ∧ (letter (n.val : Int) = true → letter (fold (n.val : Int)) = true) := by decide +kernel
theorem fold_all (c : Int) : (c ≤ fold c ∧ fold c ≤ c + 80) ∧ fold (fold c) = fold c ∧ (letter c = true → letter (fold c) = true) := by
  by_cases h : c < 0 ∨ 1071 < c
  · rw [fold_far c h, fold_far c h]
    exact ⟨by omega, rfl, id⟩
  · have := fold_near ⟨c.toNat, by omega⟩
    rw [show (((⟨c.toNat, by omega⟩ : Fin 1072).val : Nat) : Int) = c from by show ((c.toNat : Nat) : Int) = c; omega] at this
    exact this
theorem fold_bound (c : Int) : c ≤ fold c ∧ fold c ≤ c + 80 := (fold_all c).1
theorem whole_fold (c : Int) (h : whole c = true) : whole (fold c) = true := by
  by_cases hf : c < 0 ∨ 1071 < c
  · rw [fold_far c hf]; exact h
  · have := fold_bound c
    rw [whole_iff] at *
    omega
theorem letter_whole (c : Int) (h : letter c = true) : whole c = true ∧ letter (fold c) = true := by
  refine ⟨?_, (fold_all c).2.2 h⟩
  unfold letter at h
  simp only [among, Bool.or_eq_true, decide_eq_true_iff] at h
  rw [whole_iff]
  rcases h with h | h | h | h | h | h | h | h | h | h | h
  all_goals first | (cases h; done) | omega
end Ut

theorem ret_bool {a b : Bool} (h : a = b) : Ending.returned (.bool a) = .returned (.bool b) := by rw [h]
theorem ret_i {k : IntKind} {a b : Int} (h : a = b) : Ending.returned (.int k a) = .returned (.int k b) := by rw [h]

set_option maxHeartbeats 400000 in
theorem within_any (c lo hi : Int) (w : World) :
    Calls Tryd.prog 30 #[.int .i64 c, .int .i64 lo, .int .i64 hi] w fun e w' => e = .returned (.bool (decide (lo ≤ c ∧ c ≤ hi))) ∧ w = w' := by
  by_cases h1 : lo ≤ c
  · by_cases h2 : c ≤ hi
    · have e : decide (lo ≤ c ∧ c ≤ hi) = true := decide_eq_true ⟨h1, h2⟩
      rw [e]
      go_enter Tryd.func30, Tryd.ntmps30
      go_wp2_with fail
      go_ret
      exact ⟨rfl, rfl⟩
    · have e : decide (lo ≤ c ∧ c ≤ hi) = false := decide_eq_false (fun h => h2 h.2)
      rw [e]
      go_enter Tryd.func30, Tryd.ntmps30
      go_wp2_with fail
      go_ret
      exact ⟨rfl, rfl⟩
  · have e : decide (lo ≤ c ∧ c ≤ hi) = false := decide_eq_false (fun h => h1 h.1)
    rw [e]
    go_enter Tryd.func30, Tryd.ntmps30
    go_wp2_with fail
    go_ret
    exact ⟨rfl, rfl⟩

set_option maxHeartbeats 1000000 in
theorem whole_any (c : Int) (w : World) :
    Calls Tryd.prog 95 #[.int .i64 c] w fun e w' => e = .returned (.bool (Ut.whole c)) ∧ w = w' := by
  have h1 := Lib.hid (within_any c 0 55295 w)
  have h2 := Lib.hid (within_any c 57344 1114111 w)
  have hw : Hid (Ut.whole c = (decide (0 ≤ c ∧ c ≤ 55295) || decide (57344 ≤ c ∧ c ≤ 1114111))) := by
    show _ = _
    rw [Bool.eq_iff_iff, Ut.whole_iff, Bool.or_eq_true, decide_eq_true_iff, decide_eq_true_iff]
    omega
  generalize decide (0 ≤ c ∧ c ≤ 55295) = a at *
  generalize decide (57344 ≤ c ∧ c ≤ 1114111) = b at *
  go_enter Tryd.func95, Tryd.ntmps95
  go_wp2_with fail
  refine h1.out.mono ?_
  rintro e w1 ⟨rfl, rfl⟩
  cases a
  · go_wp2_with fail
    refine h2.out.mono ?_
    rintro e w1 ⟨rfl, rfl⟩
    go_wp2_with fail
    go_ret
    exact ⟨by rw [hw.out]; rfl, rfl⟩
  · go_wp2_with fail
    go_ret
    exact ⟨by rw [hw.out]; rfl, rfl⟩

theorem letter_split (c : Int) (h1 : ¬ c = 215) (h2 : ¬ c = 247) (h3 : ¬ c = 894) (h4 : ¬ c = 1154) :
    Ut.letter c = (decide (97 ≤ c ∧ c ≤ 122) || (decide (65 ≤ c ∧ c ≤ 90) || (decide (48 ≤ c ∧ c ≤ 57) || (decide (192 ≤ c ∧ c ≤ 591) || (decide (880 ≤ c ∧ c ≤ 1327) || decide (19968 ≤ c ∧ c ≤ 40959)))))) := by
  have e1 : decide (192 ≤ c ∧ c ≤ 591) = (decide (192 ≤ c ∧ c ≤ 214) || (decide (216 ≤ c ∧ c ≤ 246) || decide (248 ≤ c ∧ c ≤ 591))) := by
    rw [← Bool.decide_or, ← Bool.decide_or]
    exact decide_eq_decide.2 (by omega)
  have e2 : decide (880 ≤ c ∧ c ≤ 1327) = (decide (880 ≤ c ∧ c ≤ 893) || (decide (895 ≤ c ∧ c ≤ 1153) || decide (1155 ≤ c ∧ c ≤ 1327))) := by
    rw [← Bool.decide_or, ← Bool.decide_or]
    exact decide_eq_decide.2 (by omega)
  rw [e1, e2]
  simp only [Ut.letter, Ut.among, Bool.or_assoc, Bool.or_false]
set_option maxHeartbeats 1000000 in
theorem letter_any (c : Int) (w : World) :
    Calls Tryd.prog 16 #[.int .i64 c] w fun e w' => e = .returned (.bool (Ut.letter c)) ∧ w = w' := by
  by_cases h : c = 215 ∨ c = 247 ∨ c = 894 ∨ c = 1154
  · rcases h with rfl | rfl | rfl | rfl
    all_goals
      go_enter Tryd.func16, Tryd.ntmps16
      go_wp2_with fail
      go_ret
      exact ⟨ret_bool (by decide +kernel), rfl⟩
  · have hs := Lib.hid (letter_split c (by omega) (by omega) (by omega) (by omega))
    have n1 : (c == 215) = false := by simp; omega
    have n2 : (c == 247) = false := by simp; omega
    have n3 : (c == 894) = false := by simp; omega
    have n4 : (c == 1154) = false := by simp; omega
    have H1 := Lib.hid (within_any c 97 122 w)
    have H2 := Lib.hid (within_any c 65 90 w)
    have H3 := Lib.hid (within_any c 48 57 w)
    have H4 := Lib.hid (within_any c 192 591 w)
    have H5 := Lib.hid (within_any c 880 1327 w)
    have H6 := Lib.hid (within_any c 19968 40959 w)
    generalize decide (97 ≤ c ∧ c ≤ 122) = a1 at *
    generalize decide (65 ≤ c ∧ c ≤ 90) = a2 at *
    generalize decide (48 ≤ c ∧ c ≤ 57) = a3 at *
    generalize decide (192 ≤ c ∧ c ≤ 591) = a4 at *
    generalize decide (880 ≤ c ∧ c ≤ 1327) = a5 at *
    generalize decide (19968 ≤ c ∧ c ≤ 40959) = a6 at *
    clear h
    go_enter Tryd.func16, Tryd.ntmps16
    go_wp2_with fail
    refine H1.out.mono ?_
    rintro e w1 ⟨rfl, rfl⟩
    cases a1
    case true => (go_wp2_with fail; go_ret; exact ⟨ret_bool (by rw [hs.out]; simp), rfl⟩)
    go_wp2_with fail
    refine H2.out.mono ?_
    rintro e w1 ⟨rfl, rfl⟩
    cases a2
    case true => (go_wp2_with fail; go_ret; exact ⟨ret_bool (by rw [hs.out]; simp), rfl⟩)
    go_wp2_with fail
    refine H3.out.mono ?_
    rintro e w1 ⟨rfl, rfl⟩
    cases a3
    case true => (go_wp2_with fail; go_ret; exact ⟨ret_bool (by rw [hs.out]; simp), rfl⟩)
    go_wp2_with fail
    refine H4.out.mono ?_
    rintro e w1 ⟨rfl, rfl⟩
    cases a4
    case true => (go_wp2_with fail; go_ret; exact ⟨ret_bool (by rw [hs.out]; simp), rfl⟩)
    go_wp2_with fail
    refine H5.out.mono ?_
    rintro e w1 ⟨rfl, rfl⟩
    cases a5
    case true => (go_wp2_with fail; go_ret; exact ⟨ret_bool (by rw [hs.out]; simp), rfl⟩)
    go_wp2_with fail
    refine H6.out.mono ?_
    rintro e w1 ⟨rfl, rfl⟩
    cases a6
    · go_wp2_with fail
      go_ret
      exact ⟨ret_bool (by rw [hs.out]; simp), rfl⟩
    · go_wp2_with fail
      go_ret
      exact ⟨ret_bool (by rw [hs.out]; simp), rfl⟩

theorem fold_split (c : Int) (h1 : ¬ c = 215) (h2 : ¬ c = 930) :
    Ut.fold c = if (decide (65 ≤ c ∧ c ≤ 90) || (decide (192 ≤ c ∧ c ≤ 222) || (decide (913 ≤ c ∧ c ≤ 937) || decide (1040 ≤ c ∧ c ≤ 1071)))) = true then c + 32 else if decide (1024 ≤ c ∧ c ≤ 1039) = true then c + 80 else if c = 962 then 963 else c := by
  have e1 : decide (192 ≤ c ∧ c ≤ 222) = (decide (192 ≤ c ∧ c ≤ 214) || decide (216 ≤ c ∧ c ≤ 222)) := by
    rw [← Bool.decide_or]
    exact decide_eq_decide.2 (by omega)
  have e2 : decide (913 ≤ c ∧ c ≤ 937) = (decide (913 ≤ c ∧ c ≤ 929) || decide (931 ≤ c ∧ c ≤ 937)) := by
    rw [← Bool.decide_or]
    exact decide_eq_decide.2 (by omega)
  rw [e1, e2]
  simp only [Ut.fold, Ut.among, Bool.or_assoc, Bool.or_false, decide_eq_true_iff]
set_option maxHeartbeats 1000000 in
theorem fold_any (c : Int) (w : World) :
    Calls Tryd.prog 50 #[.int .i64 c] w fun e w' => e = .returned (.int .i64 (Ut.fold c)) ∧ w = w' := by
  by_cases h : c = 215 ∨ c = 930
  · rcases h with rfl | rfl
    all_goals
      go_enter Tryd.func50, Tryd.ntmps50
      go_wp2_with fail
      go_ret
      exact ⟨ret_i (by decide +kernel), rfl⟩
  · have hs := Lib.hid (fold_split c (by omega) (by omega))
    have n1 : (c == 215) = false := by simp; omega
    have n2 : (c == 930) = false := by simp; omega
    have H1 := Lib.hid (within_any c 65 90 w)
    have H2 := Lib.hid (within_any c 192 222 w)
    have H3 := Lib.hid (within_any c 913 937 w)
    have H4 := Lib.hid (within_any c 1040 1071 w)
    have H5 := Lib.hid (within_any c 1024 1039 w)
    have hb : -10 ≤ c ∧ c ≤ 2000 ∨ (decide (65 ≤ c ∧ c ≤ 90) = false ∧ decide (192 ≤ c ∧ c ≤ 222) = false ∧ decide (913 ≤ c ∧ c ≤ 937) = false ∧ decide (1040 ≤ c ∧ c ≤ 1071) = false ∧ decide (1024 ≤ c ∧ c ≤ 1039) = false) := by
      by_cases hc : -10 ≤ c ∧ c ≤ 2000
      · exact .inl hc
      · refine .inr ⟨?_, ?_, ?_, ?_, ?_⟩ <;> exact decide_eq_false (by omega)
    generalize decide (65 ≤ c ∧ c ≤ 90) = a1 at *
    generalize decide (192 ≤ c ∧ c ≤ 222) = a2 at *
    generalize decide (913 ≤ c ∧ c ≤ 937) = a3 at *
    generalize decide (1040 ≤ c ∧ c ≤ 1071) = a4 at *
    generalize decide (1024 ≤ c ∧ c ≤ 1039) = a5 at *
    have HB := Lib.hid hb
    clear h hb
    go_enter Tryd.func50, Tryd.ntmps50
    go_wp2_with fail
    refine H1.out.mono ?_
    rintro e w1 ⟨rfl, rfl⟩
    cases a1
    case true =>
      have hb := HB.out
      simp only [Bool.true_eq_false, false_and, or_false] at hb
      go_wp2_with fail
      go_ret
      exact ⟨ret_i (by rw [hs.out]; simp <;> omega), rfl⟩
    go_wp2_with fail
    refine H2.out.mono ?_
    rintro e w1 ⟨rfl, rfl⟩
    cases a2
    case true =>
      have hb := HB.out
      simp only [Bool.true_eq_false, false_and, and_false, or_false] at hb
      go_wp2_with fail
      go_ret
      exact ⟨ret_i (by rw [hs.out]; simp <;> omega), rfl⟩
    go_wp2_with fail
    refine H3.out.mono ?_
    rintro e w1 ⟨rfl, rfl⟩
    cases a3
    case true =>
      have hb := HB.out
      simp only [Bool.true_eq_false, false_and, and_false, or_false] at hb
      go_wp2_with fail
      go_ret
      exact ⟨ret_i (by rw [hs.out]; simp <;> omega), rfl⟩
    go_wp2_with fail
    refine H4.out.mono ?_
    rintro e w1 ⟨rfl, rfl⟩
    cases a4
    case true =>
      have hb := HB.out
      simp only [Bool.true_eq_false, false_and, and_false, or_false] at hb
      go_wp2_with fail
      go_ret
      exact ⟨ret_i (by rw [hs.out]; simp <;> omega), rfl⟩
    go_wp2_with fail
    refine H5.out.mono ?_
    rintro e w1 ⟨rfl, rfl⟩
    cases a5
    case true =>
      have hb := HB.out
      simp only [Bool.true_eq_false, and_false, or_false] at hb
      go_wp2_with fail
      go_ret
      exact ⟨ret_i (by rw [hs.out]; simp <;> omega), rfl⟩
    by_cases h9 : c = 962
    · subst h9
      go_wp2_with fail
      go_ret
      exact ⟨ret_i (by rw [hs.out]; simp), rfl⟩
    · have n9 : (c == 962) = false := by simp; omega
      go_wp2_with fail
      go_ret
      exact ⟨ret_i (by rw [hs.out]; simp [h9]), rfl⟩
end Go.Proofs.YthhfmcikfdagiaaDoor

/-
  append onto numbers of the call's own, as laws for the walk; a range over a text beside such numbers.
-/
namespace Go.Proofs.YthhfmcikfdagiaaDoor
open Go.RowKit

/-- 'append(v, c)' of one number, which lies in a new block. -/
theorem wpList_pushI {ops : Array Oper} {rest : List Oper} {o : Oper} {a : Act} {Q : Exit → Act → World → Prop} {w : World} (hgd : o.guard = none) (s x : Operand)
    (ho : o.op = .call { callee := .builtin .append, args := #[s, x], argTypes := #[22, 22] })
    (B : Nat) (hB : B ≤ w.heap.size) (v : Value) (l : List Int) (c : Int) (hs : a.eval s = v) (h : OwnI w B v l) (hx : a.eval x = .slice (some ⟨w.heap.size, 0, none⟩) 1 1)
    (hb : l.length + 1 ≤ 17592186044416)
    (hk : ∀ v' w', OwnI w' B v' (l ++ [c]) → Below B w w' → (w.alloc (.cells #[.int .i64 c] 3)).grownBy w' v.ownBlock → wpList Tryd.prog ops Q rest (a.put o.dst v') w') :
    wpList Tryd.prog ops Q (o :: rest) a (w.alloc (.cells #[.int .i64 c] 3)) := by
  obtain ⟨ii, hi, hz0, hz1, hz2⟩ := info_parts Tryd.infoI
  have hown : w.ownsRow B 3 1 v l.length (intsV5 l) := h
  refine wpList_append_own _ hgd s x 22 ho B 3 ii (.int .i64 0) 1 8 Tryd.underlying22 hi hz0 hz1 hz2 rfl (by decide) _ _ _ hs (hown.alloc _) ⟨w.heap.size, 0, none⟩ 1 1 [.int .i64 c] hx rfl ?_ ?_ (by unfold maxLen; omega) (by omega) (by simp; omega) ?_
  · intro j u hj
    match j, hj with
    | 0, hj => simp at hj; subst hj; simp [Addr.add]
  · intro u hu
    simp at hu
    subst hu
    rfl
  · intro v' w' h1 h2 _
    obtain ⟨h3, h4⟩ := ownI_push hB h (Below.refl B w) h1 h2
    exact hk v' w' h3 h4 h2

theorem OwnI.of_heap {w w' : World} {B : Nat} {v : Value} {l : List Int} (h : OwnI w B v l) (e : ∀ k, v.ownBlock = some k → k < w.heap.size → w'.heap[k]? = w.heap[k]?) : OwnI w' B v l := by
  have hown : w.ownsRow B 3 1 v l.length (intsV5 l) := h
  refine ⟨h.1, ?_⟩
  rcases h.2 with ⟨h1, h2⟩ | ⟨g, cap, cur, h1, hg, hh, hnc, hcp, hcs, htake⟩
  · exact .inl ⟨h1, h2⟩
  · have hlt : g < w.heap.size := (hown.lt g (by rw [h1]; rfl)).2
    exact .inr ⟨g, cap, cur, h1, hg, (e g (by rw [h1]; rfl) hlt).trans hh, hnc, hcp, hcs, htake⟩
/-- The row of numbers is not the iterator. -/
theorem OwnI.ne_iter {w : World} {B : Nat} {v : Value} {l : List Int} {K : Nat} {s : ByteArray} {pos : Nat} (h : OwnI w B v l) (hk : w.heap[K]? = some (.stringIter s pos)) : ∀ k, v.ownBlock = some k → k ≠ K := by
  intro k hv e
  subst e
  rcases h.2 with ⟨h1, _⟩ | ⟨g, cap, cur, h1, hg, hh, _⟩
  · rw [h1] at hv; cases hv
  · rw [h1] at hv
    obtain rfl : g = k := by simpa [Value.ownBlock] using hv
    rw [hk] at hh
    cases hh
theorem OwnI.iterAt {w : World} {B : Nat} {v : Value} {l : List Int} {K : Nat} {s : ByteArray} {pos : Nat} (h : OwnI w B v l) (hk : w.heap[K]? = some (.stringIter s pos)) (pos' : Nat) : OwnI (w.iterAt K s pos') B v l :=
  h.of_heap fun k hv _ => by
    have hne := h.ne_iter hk k hv
    simp only [World.iterAt]
    rw [Array.getElem?_setIfInBounds_ne (Ne.symm hne)]
theorem below_iterAt {B : Nat} {w0 w : World} {K : Nat} {s : ByteArray} (h : Below B w0 w) (hK : B ≤ K) (pos' : Nat) : Below B w0 (w.iterAt K s pos') :=
  h.trans ⟨rfl, rfl, rfl, by simp [World.iterAt], fun k hk => by simp only [World.iterAt]; rw [Array.getElem?_setIfInBounds_ne (by omega)]⟩
end Go.Proofs.YthhfmcikfdagiaaDoor
