/-
  Loose automata: what they lead to by nothing, the sets of states that are met, what is taken.
-/
import Derived.Test.YtmpjhbbcfnffhaaZd
namespace Go.Proofs.Ytmpjhbbcfnffhaa
namespace Au

/-- A loose state. -/
structure Lo where
  fin : Bool
  arcs : List Arc
  free : List Int
deriving DecidableEq

/-- A list of loose states that may be. -/
structure May (n : List Lo) : Prop where
  pos : 0 < n.length
  arc : ∀ i (h : i < n.length), ∀ a ∈ n[i].arcs, 0 ≤ a.lo ∧ a.lo ≤ a.hi ∧ a.hi ≤ 255 ∧ 0 ≤ a.to ∧ a.to < n.length
  free : ∀ i (h : i < n.length), ∀ f ∈ n[i].free, 0 ≤ f ∧ f < n.length

/-- Is a state in a set? -/
def has (S : List Bool) (i : Nat) : Prop := S[i]? = some true
/-- What a state leads to by nothing, on and on. -/
inductive Star (n : List Lo) (i : Nat) : Nat → Prop
  | refl : Star n i i
  | step {j : Nat} {s : Lo} {f : Int} : Star n i j → n[j]? = some s → f ∈ s.free → Star n i f.toNat
theorem Star.trans {n : List Lo} {i j k : Nat} (h : Star n i j) (g : Star n j k) : Star n i k := by
  induction g with
  | refl => exact h
  | step _ h1 h2 ih => exact .step ih h1 h2

open Classical in
/-- The set of what is so. -/
noncomputable def setOf (m : Nat) (P : Nat → Prop) : List Bool := (List.range m).map (fun i => decide (P i))
theorem setOf_length (m : Nat) (P : Nat → Prop) : (setOf m P).length = m := by simp [setOf]
theorem has_setOf (m : Nat) (P : Nat → Prop) (i : Nat) : has (setOf m P) i ↔ i < m ∧ P i := by
  unfold has setOf
  rw [List.getElem?_map]
  by_cases h : i < m
  · rw [List.getElem?_range h]
    simp [h]
  · rw [List.getElem?_eq_none (by simp; omega)]
    simp [h]
/-- Two sets of one length that have the same are one. -/
theorem set_ext {S T : List Bool} (hl : S.length = T.length) (h : ∀ i, has S i ↔ has T i) : S = T := by
  apply List.ext_getElem? 
  intro i
  have hi := h i
  unfold has at hi
  cases hs : S[i]? with
  | none =>
    have : T.length ≤ i := by rw [← hl]; exact List.getElem?_eq_none_iff.1 hs
    exact (List.getElem?_eq_none this).symm
  | some a =>
    have h1 : i < T.length := by rw [← hl]; exact (List.getElem?_eq_some_iff.1 hs).1
    rw [List.getElem?_eq_getElem h1]
    rw [hs, List.getElem?_eq_getElem h1] at hi
    congr 1
    cases a <;> cases hb : T[i] <;> simp_all

/-- A set, and what it leads to by nothing. -/
noncomputable def spread (n : List Lo) (S : List Bool) : List Bool := setOf n.length (fun i => ∃ j, has S j ∧ Star n j i)
/-- What one byte leads a set to. -/
def leads (n : List Lo) (S : List Bool) (c : Nat) (j : Nat) : Prop := ∃ k s a, has S k ∧ n[k]? = some s ∧ a ∈ s.arcs ∧ a.lo ≤ (c : Int) ∧ (c : Int) ≤ a.hi ∧ a.to.toNat = j
noncomputable def over (n : List Lo) (S : List Bool) (c : Nat) : List Bool := spread n (setOf n.length (leads n S c))
/-- The start's set. -/
noncomputable def first (n : List Lo) : List Bool := spread n (setOf n.length (fun i => i = 0))
open Classical in
/-- Is one of a set final? -/
noncomputable def ends (n : List Lo) (S : List Bool) : Bool := decide (∃ i s, has S i ∧ n[i]? = some s ∧ s.fin = true)
open Classical in
/-- Is a set empty? -/
noncomputable def empty (S : List Bool) : Bool := decide (∀ i, ¬ has S i)
theorem empty_iff (S : List Bool) : empty S = true ↔ ∀ i, ¬ has S i := by simp [empty]
theorem ends_iff (n : List Lo) (S : List Bool) : ends n S = true ↔ ∃ i s, has S i ∧ n[i]? = some s ∧ s.fin = true := by simp [ends]

theorem spread_length (n : List Lo) (S : List Bool) : (spread n S).length = n.length := setOf_length _ _
theorem over_length (n : List Lo) (S : List Bool) (c : Nat) : (over n S c).length = n.length := setOf_length _ _
theorem first_length (n : List Lo) : (first n).length = n.length := setOf_length _ _
theorem spread_empty (n : List Lo) (S : List Bool) (h : ∀ i, ¬ has S i) : ∀ i, ¬ has (spread n S) i := by
  intro i hi
  obtain ⟨_, j, hj, _⟩ := (has_setOf _ _ _).1 hi
  exact h j hj
theorem over_empty (n : List Lo) (S : List Bool) (c : Nat) (h : ∀ i, ¬ has S i) : ∀ i, ¬ has (over n S c) i := by
  apply spread_empty
  intro i hi
  obtain ⟨_, k, s, a, hk, _⟩ := (has_setOf _ _ _).1 hi
  exact h k hk

/-- The automaton of the sets that are not empty. -/
noncomputable def sub (n : List Lo) : Auto (List Bool) where
  step := fun S c => if empty (over n S c) = true then none else some (over n S c)
  fin := ends n
/-- What a loose automaton takes. -/
noncomputable def takes (n : List Lo) (S : List Bool) (w : List Nat) : Bool := ends n (w.foldl (over n) S)
theorem takes_empty (n : List Lo) (S : List Bool) (h : ∀ i, ¬ has S i) (w : List Nat) : takes n S w = false := by
  induction w generalizing S with
  | nil =>
    unfold takes
    rw [← Bool.not_eq_true, List.foldl_nil, ends_iff]
    rintro ⟨i, s, hi, _⟩
    exact h i hi
  | cons c w ih => exact ih (over n S c) (over_empty n S c h)
theorem sub_takes (n : List Lo) (S : List Bool) (w : List Nat) : (sub n).acc (some S) w = takes n S w := by
  induction w generalizing S with
  | nil => rfl
  | cons c w ih =>
    rw [acc_cons]
    change (sub n).acc (if empty (over n S c) = true then none else some (over n S c)) w = takes n (over n S c) w
    by_cases h : empty (over n S c) = true
    · rw [if_pos h, acc_none, takes_empty n _ ((empty_iff _).1 h)]
    · rw [if_neg h]
      exact ih _
theorem sub_top {n : List Lo} (hn : May n) (S : List Bool) (c : Nat) (hc : 256 ≤ c) : (sub n).step S c = none := by
  change (if empty (over n S c) = true then none else some (over n S c)) = none
  rw [if_pos]
  rw [empty_iff]
  apply spread_empty
  intro i hi
  obtain ⟨_, k, s, a, hk, hs, ha, _, h2, _⟩ := (has_setOf _ _ _).1 hi
  obtain ⟨hl, rfl⟩ := List.getElem?_eq_some_iff.1 hs
  have := hn.arc k hl a ha
  omega

/-- No more sets than so many are met. -/
def Few (n : List Lo) (most : Int) (i : Nat) : Prop := (sub n).plain.Done (first n) i ∧ ((sub n).plain.met (first n) i).length ≤ most
open Classical in
/-- The least automaton of a loose one, if no more sets are met. -/
noncomputable def tight (n : List Lo) (most : Int) : Option (List St) := if h : ∃ i, Few n most i then some (least ((sub n).plain.out (first n) (Classical.choose h))) else none
theorem tight_some {n : List Lo} {most : Int} {i : Nat} (h : Few n most i) : tight n most = some (least ((sub n).plain.out (first n) i)) := by
  unfold tight
  have hx : ∃ i, Few n most i := ⟨i, h⟩
  rw [dif_pos hx]
  have := done_same (sub n).plain (first n) _ i (Classical.choose_spec hx).1 h.1
  unfold Walk.out
  rw [this]
theorem met_le {σ : Type} (W : Walk σ) (s : σ) (i j : Nat) (hj : W.Done s j) : (W.met s i).length ≤ (W.met s j).length := by
  rcases Nat.le_total i j with h | h
  · obtain ⟨d, rfl⟩ : ∃ d, j = i + d := ⟨j - i, by omega⟩
    obtain ⟨r, hr⟩ := met_mono W s i d
    rw [hr, List.length_append]
    omega
  · obtain ⟨d, rfl⟩ : ∃ d, i = j + d := ⟨i - j, by omega⟩
    unfold Walk.met
    rw [done_stays W s j d hj]
    exact Nat.le_refl _
theorem tight_none {n : List Lo} {most : Int} (i : Nat) (h : most < ((sub n).plain.met (first n) i).length) : tight n most = none := by
  unfold tight
  rw [dif_neg]
  rintro ⟨j, hj1, hj2⟩
  have := met_le (sub n).plain (first n) i j hj1
  omega
theorem bytes_le {σ : Type} (W : Walk σ) (s : σ) (m : List σ) (c d : Nat) : (W.bytes s m c).1.length ≤ (W.bytes s m (c + d)).1.length := by
  induction d with
  | zero => exact Nat.le_refl _
  | succ d ih =>
    obtain ⟨r, h⟩ := byte_grows W s (c + d) (W.bytes s m (c + d))
    rw [← Nat.add_assoc, Walk.bytes, h, List.length_append]
    omega
/-- Too many within a row. -/
theorem tight_row {n : List Lo} {most : Int} (i c : Nat) (hc : c ≤ 256) (a : List Bool) (ha : ((sub n).plain.met (first n) i)[i]? = some a) (h : most < ((sub n).plain.bytes a ((sub n).plain.met (first n) i) c).1.length) : tight n most = none := by
  apply tight_none (i + 1)
  have e : (sub n).plain.met (first n) (i + 1) = ((sub n).plain.bytes a ((sub n).plain.met (first n) i) 256).1 := by
    unfold Walk.met at *
    simp only [Walk.states]
    rw [ha]
  rw [e]
  obtain ⟨d, hd⟩ : ∃ d, 256 = c + d := ⟨256 - c, by omega⟩
  have := bytes_le (sub n).plain a ((sub n).plain.met (first n) i) c d
  rw [← hd] at this
  omega
/-- The tight automaton's rows, and what it takes. -/
theorem few_rows {n : List Lo} (hn : May n) {most : Int} {i : Nat} (h : Few n most i) : 0 < ((sub n).plain.out (first n) i).length ∧ ∀ k (h : k < ((sub n).plain.out (first n) i).length), Row ((sub n).plain.out (first n) i).length 256 ((sub n).plain.out (first n) i)[k].arcs :=
  out_rows _ (plain_fair _ (sub_top hn)).refl _ _ h.1
theorem few_eqv {n : List Lo} (hn : May n) {most : Int} {i : Nat} (h : Few n most i) : Eqv (ofL ((sub n).plain.out (first n) i)) (sub n) 0 (first n) := (plain_fair _ (sub_top hn)).eqv _ _ h.1
theorem few_len {n : List Lo} {most : Int} {i : Nat} (h : Few n most i) : (((sub n).plain.out (first n) i).length : Int) ≤ most := by
  have := out_length (sub n).plain (first n) i
  have := h.2
  omega
theorem tight_takes {n : List Lo} (hn : May n) {most : Int} {d : List St} (h : tight n most = some d) (w : List Nat) : (ofL d).acc (some 0) w = takes n (first n) w := by
  have hx : ∃ i, Few n most i := by
    unfold tight at h
    split at h
    · assumption
    · cases h
  obtain ⟨i, hi⟩ := hx
  rw [tight_some hi] at h
  cases h
  obtain ⟨h1, h2⟩ := few_rows hn hi
  rw [least_eqv h1 h2 w, few_eqv hn hi w, sub_takes]
theorem tight_fits {n : List Lo} (hn : May n) {most : Int} (hm : most ≤ 20000) {d : List St} (h : tight n most = some d) : Fits d := by
  have hx : ∃ i, Few n most i := by
    unfold tight at h
    split at h
    · assumption
    · cases h
  obtain ⟨i, hi⟩ := hx
  rw [tight_some hi] at h
  cases h
  obtain ⟨h1, h2⟩ := few_rows hn hi
  have h3 := few_len hi
  exact least_fits ⟨h1, by omega, h2⟩
/-- What takes the same as a loose one has the tight one's least. -/
theorem tight_is {n : List Lo} (hn : May n) {most : Int} {i : Nat} (hi : Few n most i) {d : List St} (h0 : 0 < d.length) (hr : ∀ i (h : i < d.length), Row d.length 256 d[i].arcs) (h : Eqv (ofL d) (sub n) 0 (first n)) : tight n most = some (least d) := by
  obtain ⟨h1, h2⟩ := few_rows hn hi
  rw [tight_some hi]
  exact congrArg some (least_congr h1 h2 h0 hr ((few_eqv hn hi).trans h.symm))

end Au
end Go.Proofs.Ytmpjhbbcfnffhaa
