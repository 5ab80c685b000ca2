/-
  Rows of arcs: what they lead to, that they are an automaton's; the least automaton takes what the first one takes.
-/
import Derived.Test.YtmpjhbbcfnffhaaZa
namespace Go.Proofs.Ytmpjhbbcfnffhaa
namespace Au
variable {σ τ : Type}

/-- Where the first arc that holds a number leads. -/
def look : List Arc → Int → Option Int
  | [], _ => none
  | a :: r, x => if a.lo ≤ x ∧ x ≤ a.hi then some a.to else look r x
theorem look_append (l r : List Arc) (x : Int) : look (l ++ r) x = (look l x).or (look r x) := by
  induction l with
  | nil => simp [look]
  | cons a t ih =>
    simp only [List.cons_append, look]
    split
    · simp
    · exact ih

/-- Arcs as 8.1 asks for them, of so many states, below byte c. -/
def Row (n : Nat) (c : Int) (l : List Arc) : Prop :=
  (∀ k (h : k < l.length), 0 ≤ l[k].lo ∧ l[k].lo ≤ l[k].hi ∧ l[k].hi < c ∧ 0 ≤ l[k].to ∧ l[k].to < n) ∧ ∀ k (h : k + 1 < l.length), l[k].hi < l[k + 1].lo
theorem Row.nil (n : Nat) (c : Int) : Row n c [] := ⟨fun k h => by simp at h, fun k h => by simp at h⟩
theorem Row.mono {n m : Nat} {c d : Int} {l : List Arc} (h : Row n c l) (hn : n ≤ m) (hc : c ≤ d) : Row m d l :=
  ⟨fun k hk => by have := h.1 k hk; omega, h.2⟩
theorem Row.snoc {n : Nat} {c d : Int} {l : List Arc} (h : Row n c l) (a : Arc) (h1 : 0 ≤ a.lo) (h2 : a.lo ≤ a.hi) (h3 : a.hi < d) (h4 : 0 ≤ a.to) (h5 : a.to < n) (h6 : ∀ k (hk : k < l.length), l[k].hi < a.lo) (hcd : c ≤ d) : Row n d (l ++ [a]) := by
  refine ⟨fun k hk => ?_, fun k hk => ?_⟩
  · rw [List.length_append] at hk
    by_cases hl : k < l.length
    · have := h.1 k hl
      rw [List.getElem_append_left hl]
      omega
    · have e : k = l.length := by simp at hk; omega
      subst e
      simp
      omega
  · rw [List.length_append] at hk
    simp only [List.length_cons, List.length_nil] at hk
    by_cases hl : k + 1 < l.length
    · rw [List.getElem_append_left (by omega), List.getElem_append_left hl]
      exact h.2 k hl
    · have e : k + 1 = l.length := by omega
      have h7 := h6 k (by omega)
      rw [List.getElem_append_left (by omega)]
      simp only [e, List.getElem_append_right (Nat.le_refl _), Nat.sub_self, List.getElem_cons_zero]
      exact h7
theorem Row.init {n : Nat} {c : Int} {l : List Arc} {a : Arc} (h : Row n c (l ++ [a])) : Row n c l ∧ (0 ≤ a.lo ∧ a.lo ≤ a.hi ∧ a.hi < c ∧ 0 ≤ a.to ∧ a.to < n) ∧ ∀ k (hk : k < l.length), l[k].hi < a.lo := by
  have hlen : (l ++ [a]).length = l.length + 1 := by simp
  refine ⟨⟨fun k hk => ?_, fun k hk => ?_⟩, ?_, ?_⟩
  · have := h.1 k (by omega)
    rwa [List.getElem_append_left hk] at this
  · have := h.2 k (by omega)
    rwa [List.getElem_append_left (by omega), List.getElem_append_left hk] at this
  · have := h.1 l.length (by omega)
    simpa using this
  · intro k hk
    have main : ∀ d k, k + d + 1 = l.length → ∀ (hk : k < l.length), l[k].hi < a.lo := by
      intro d
      induction d with
      | zero =>
        intro k e hk
        have h1 := h.2 k (by omega)
        have e' : k + 1 = l.length := by omega
        simp only [List.getElem_append_left hk, e', List.getElem_append_right (Nat.le_refl _), Nat.sub_self, List.getElem_cons_zero] at h1
        exact h1
      | succ d ih =>
        intro k e hk
        have h1 := ih (k + 1) (by omega) (by omega)
        have h2 := h.2 k (by omega)
        rw [List.getElem_append_left hk, List.getElem_append_left (by omega)] at h2
        have h3 := h.1 (k + 1) (by omega)
        rw [List.getElem_append_left (by omega)] at h3
        omega
    exact main (l.length - k - 1) k (by omega) hk

theorem look_above {n : Nat} {c : Int} {l : List Arc} (h : Row n c l) (x : Int) (hx : c ≤ x) : look l x = none := by
  induction l with
  | nil => rfl
  | cons a r ih =>
    simp only [look]
    have h0 := h.1 0 (by simp)
    simp only [List.getElem_cons_zero] at h0
    rw [if_neg (by omega)]
    apply ih
    exact ⟨fun k hk => by have := h.1 (k + 1) (by simp; omega); simpa using this, fun k hk => by have := h.2 (k + 1) (by simp; omega); simpa using this⟩

theorem last_cases (l : List Arc) : l = [] ∨ ∃ r a, l = r ++ [a] := by
  rcases List.eq_nil_or_concat l with h | ⟨r, a, h⟩
  · exact .inl h
  · exact .inr ⟨r, a, by rw [h, List.concat_eq_append]⟩
theorem grown_snoc (r : List Arc) (a : Arc) (c k : Nat) : grown (r ++ [a]) c k = if a.hi = (c : Int) - 1 ∧ a.to = (k : Int) then r ++ [⟨a.lo, c, k⟩] else r ++ [a] ++ [⟨c, c, k⟩] := by
  unfold grown
  simp
theorem grown_nil (c k : Nat) : grown [] c k = [⟨c, c, k⟩] := rfl
theorem grown_row {n : Nat} {l : List Arc} {c k : Nat} (h : Row n c l) (hk : k < n) : Row n (c + 1) (grown l c k) := by
  rcases last_cases l with rfl | ⟨r, a, rfl⟩
  · rw [grown_nil]
    exact (Row.nil n 0).snoc ⟨c, c, k⟩ (by simp) (by simp) (by simp; omega) (by simp) (by simp; omega) (fun k hk => by simp at hk) (by omega)
  · rw [grown_snoc]
    obtain ⟨h1, h2, h3⟩ := h.init
    split
    · exact h1.snoc ⟨a.lo, c, k⟩ (by simp; omega) (by simp; omega) (by simp; omega) (by simp) (by simp; omega) h3 (by omega)
    · refine h.snoc ⟨c, c, k⟩ (by simp) (by simp) (by simp; omega) (by simp) (by simp; omega) (fun j hj => ?_) (by omega)
      have := (h.1 j hj).2.2.1
      simpa using this
theorem grown_look {n : Nat} {l : List Arc} {c k : Nat} (h : Row n c l) (x : Int) : look (grown l c k) x = if x = c then some (k : Int) else look l x := by
  rcases last_cases l with rfl | ⟨r, a, rfl⟩
  · rw [grown_nil]
    simp only [look]
    by_cases hx : x = c
    · rw [if_pos hx, if_pos (by omega)]
    · rw [if_neg hx, if_neg (by omega)]
  · rw [grown_snoc]
    obtain ⟨h1, h2, h3⟩ := h.init
    split
    · rename_i hc
      rw [look_append, look_append]
      by_cases hx : x = c
      · rw [if_pos hx]
        have : look r x = none := by
          apply look_above (c := a.lo) (n := n) ⟨fun k hk => ?_, h1.2⟩
          · omega
          · have := h1.1 k hk
            have := h3 k hk
            omega
        rw [this]
        simp only [look]
        rw [if_pos (by omega)]
        rfl
      · rw [if_neg hx]
        congr 1
        simp only [look]
        by_cases hy : a.lo ≤ x ∧ x ≤ a.hi
        · rw [if_pos hy, if_pos (by omega), hc.2]
        · rw [if_neg hy, if_neg (by omega)]
    · rw [look_append _ [_]]
      by_cases hx : x = c
      · rw [if_pos hx, look_above h x (by omega)]
        simp only [look]
        rw [if_pos (by omega)]
        rfl
      · rw [if_neg hx]
        simp only [look]
        rw [if_neg (by omega)]
        simp

/-- An automaton out of rows. -/
def ofL (d : List St) : Auto Nat where
  step := fun i c => match d[i]? with
    | none => none
    | some s => (look s.arcs c).map Int.toNat
  fin := fun i => match d[i]? with
    | none => false
    | some s => s.fin

/-- How far the states met go. -/
def Walk.met (W : Walk σ) (s : σ) (i : Nat) : List σ := (W.states s i).1
def Walk.out (W : Walk σ) (s : σ) (i : Nat) : List St := (W.states s i).2
/-- All states are met. -/
def Walk.Done (W : Walk σ) (s : σ) (i : Nat) : Prop := (W.met s i).length ≤ i

theorem byte_grows (W : Walk σ) (s : σ) (c : Nat) (p : List σ × List Arc) : ∃ r, (W.byte s c p).1 = p.1 ++ r := by
  unfold Walk.byte
  split
  · exact ⟨[], by simp⟩
  · dsimp only
    split
    · exact ⟨_, rfl⟩
    · exact ⟨[], by simp⟩
theorem bytes_grows (W : Walk σ) (s : σ) (m : List σ) (c : Nat) : ∃ r, (W.bytes s m c).1 = m ++ r := by
  induction c with
  | zero => exact ⟨[], by simp [Walk.bytes]⟩
  | succ c ih =>
    obtain ⟨r, h⟩ := ih
    obtain ⟨t, g⟩ := byte_grows W s c (W.bytes s m c)
    exact ⟨r ++ t, by rw [Walk.bytes, g, h, List.append_assoc]⟩
theorem met_grows (W : Walk σ) (s : σ) (i : Nat) : ∃ r, W.met s (i + 1) = W.met s i ++ r := by
  unfold Walk.met
  simp only [Walk.states]
  split
  · exact ⟨[], by simp⟩
  · exact bytes_grows W _ _ 256
theorem met_mono (W : Walk σ) (s : σ) (i j : Nat) : ∃ r, W.met s (i + j) = W.met s i ++ r := by
  induction j with
  | zero => exact ⟨[], by simp⟩
  | succ j ih =>
    obtain ⟨r, h⟩ := ih
    obtain ⟨t, g⟩ := met_grows W s (i + j)
    exact ⟨r ++ t, by rw [← Nat.add_assoc, g, h, List.append_assoc]⟩
theorem done_stays (W : Walk σ) (s : σ) (i j : Nat) (h : W.Done s i) : W.states s (i + j) = W.states s i := by
  induction j with
  | zero => rfl
  | succ j ih =>
    rw [← Nat.add_assoc, Walk.states, ih]
    have : (W.states s i).1[i + j]? = none := List.getElem?_eq_none (by unfold Walk.Done Walk.met at h; omega)
    rw [this]
theorem done_same (W : Walk σ) (s : σ) (i j : Nat) (hi : W.Done s i) (hj : W.Done s j) : W.states s i = W.states s j := by
  rcases Nat.le_total i j with h | h
  · obtain ⟨d, rfl⟩ : ∃ d, j = i + d := ⟨j - i, by omega⟩
    exact (done_stays W s i d hi).symm
  · obtain ⟨d, rfl⟩ : ∃ d, i = j + d := ⟨i - j, by omega⟩
    exact done_stays W s j d hj
theorem out_length (W : Walk σ) (s : σ) (i : Nat) : (W.out s i).length = min i (W.met s i).length := by
  induction i with
  | zero => simp [Walk.out, Walk.states]
  | succ i ih =>
    obtain ⟨r, hr⟩ := met_grows W s i
    have hl := congrArg List.length hr
    rw [List.length_append] at hl
    unfold Walk.out Walk.met at *
    simp only [Walk.states] at hl ⊢
    split
    · rename_i hn
      rw [hn] at hl
      have : (W.states s i).1.length ≤ i := List.getElem?_eq_none_iff.1 hn
      dsimp only at hl
      omega
    · rename_i a ha
      have : i < (W.states s i).1.length := (List.getElem?_eq_some_iff.1 ha).1
      rw [ha] at hl
      dsimp only at hl ⊢
      rw [List.length_append, ih]
      simp
      omega
end Au
end Go.Proofs.Ytmpjhbbcfnffhaa
