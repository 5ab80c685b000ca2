/-
  Automata plainly: what they take; the least one, state by state in the order in which they are met; that it hangs on what is taken alone.
-/
import Derived.Lib.Hide
namespace Go.Proofs.Ytmpjhbbcfnffhaa
namespace Au

/-- An automaton over any states. -/
structure Auto (σ : Type) where
  step : σ → Nat → Option σ
  fin : σ → Bool

variable {σ τ : Type}

/-- Is a text taken from here on? -/
def Auto.acc (A : Auto σ) : Option σ → List Nat → Bool
  | none, _ => false
  | some s, [] => A.fin s
  | some s, c :: w => A.acc (A.step s c) w
theorem acc_none (A : Auto σ) (w : List Nat) : A.acc none w = false := by cases w <;> rfl
theorem acc_nil (A : Auto σ) (s : σ) : A.acc (some s) [] = A.fin s := rfl
theorem acc_cons (A : Auto σ) (s : σ) (c : Nat) (w : List Nat) : A.acc (some s) (c :: w) = A.acc (A.step s c) w := rfl

/-- Two states of two automata take the same. -/
def Eqv (A : Auto σ) (B : Auto τ) (s : σ) (t : τ) : Prop := ∀ w, A.acc (some s) w = B.acc (some t) w
theorem Eqv.refl (A : Auto σ) (s : σ) : Eqv A A s s := fun _ => rfl
theorem Eqv.symm {A : Auto σ} {B : Auto τ} {s : σ} {t : τ} (h : Eqv A B s t) : Eqv B A t s := fun w => (h w).symm
theorem Eqv.trans {ρ : Type} {A : Auto σ} {B : Auto τ} {C : Auto ρ} {s : σ} {t : τ} {r : ρ} (h : Eqv A B s t) (g : Eqv B C t r) : Eqv A C s r := fun w => (h w).trans (g w)
theorem Eqv.fin {A : Auto σ} {B : Auto τ} {s : σ} {t : τ} (h : Eqv A B s t) : A.fin s = B.fin t := h []
theorem Eqv.next {A : Auto σ} {B : Auto τ} {s : σ} {t : τ} (h : Eqv A B s t) (c : Nat) (w : List Nat) : A.acc (A.step s c) w = B.acc (B.step t c) w := h (c :: w)

/-- Nothing is taken from here on. -/
def Dead (A : Auto σ) (s : Option σ) : Prop := ∀ w, A.acc s w = false
theorem dead_none (A : Auto σ) : Dead A none := acc_none A

open Classical in
/-- Where a byte leads, if anything is taken from there. -/
noncomputable def Auto.go (A : Auto σ) (s : σ) (c : Nat) : Option σ := if Dead A (A.step s c) then none else A.step s c
open Classical in
/-- Do two states take the same? -/
noncomputable def Auto.same (A : Auto σ) (s t : σ) : Bool := decide (Eqv A A s t)

theorem same_iff (A : Auto σ) (s t : σ) : A.same s t = true ↔ Eqv A A s t := by
  simp [Auto.same]
theorem go_some {A : Auto σ} {s t : σ} {c : Nat} (h : A.go s c = some t) : A.step s c = some t ∧ ¬ Dead A (some t) := by
  unfold Auto.go at h
  split at h
  · cases h
  · rename_i hd
    rw [h] at hd
    exact ⟨h, hd⟩
theorem go_none {A : Auto σ} {s : σ} {c : Nat} (h : A.go s c = none) : Dead A (A.step s c) := by
  unfold Auto.go at h
  split at h
  · assumption
  · rw [h]; exact dead_none A
theorem go_of {A : Auto σ} {s t : σ} {c : Nat} (h : A.step s c = some t) (hd : ¬ Dead A (some t)) : A.go s c = some t := by
  unfold Auto.go
  rw [h, if_neg hd]
theorem go_dead {A : Auto σ} {s : σ} {c : Nat} (hd : Dead A (A.step s c)) : A.go s c = none := by
  unfold Auto.go
  rw [if_pos hd]

/-- Two states that take the same lead alike. -/
theorem go_eqv {A : Auto σ} {B : Auto τ} {s : σ} {t : τ} (h : Eqv A B s t) (c : Nat) : (A.go s c = none ∧ B.go t c = none) ∨ ∃ s' t', A.go s c = some s' ∧ B.go t c = some t' ∧ Eqv A B s' t' := by
  cases hs : A.go s c with
  | none =>
    left
    refine ⟨rfl, go_dead fun w => ?_⟩
    rw [← h.next c w]
    exact go_none hs w
  | some s' =>
    right
    obtain ⟨h1, h2⟩ := go_some hs
    cases ht : B.go t c with
    | none =>
      exfalso
      apply h2
      intro w
      have := h.next c w
      rw [h1] at this
      rw [this]
      exact go_none ht w
    | some t' =>
      obtain ⟨h3, _⟩ := go_some ht
      refine ⟨s', t', rfl, rfl, fun w => ?_⟩
      have := h.next c w
      rwa [h1, h3] at this
theorem same_eqv {A : Auto σ} {B : Auto τ} {s s' : σ} {t t' : τ} (h : Eqv A B s t) (g : Eqv A B s' t') : A.same s s' = B.same t t' := by
  by_cases e : Eqv A A s s'
  · rw [(same_iff A s s').2 e, (same_iff B t t').2 ((h.symm.trans e).trans g)]
  · have e' : ¬ Eqv B B t t' := fun e' => e ((h.trans e').trans g.symm)
    cases h1 : A.same s s' with
    | true => exact absurd ((same_iff A s s').1 h1) e
    | false =>
      cases h2 : B.same t t' with
      | true => exact absurd ((same_iff B t t').1 h2) e'
      | false => rfl

/-- An arc: from a byte to a byte, to a state. -/
structure Arc where
  lo : Int
  hi : Int
  to : Int
deriving DecidableEq
/-- A state: is it final? Its arcs. -/
structure St where
  fin : Bool
  arcs : List Arc
deriving DecidableEq

/-- Arcs, with one byte more. -/
def grown (l : List Arc) (c k : Nat) : List Arc :=
  match l.getLast? with
  | some a => if a.hi = (c : Int) - 1 ∧ a.to = (k : Int) then l.dropLast ++ [⟨a.lo, c, k⟩] else l ++ [⟨c, c, k⟩]
  | none => [⟨c, c, k⟩]

/-- The first that is the same, or how many there are. -/
def find (same : σ → σ → Bool) : List σ → σ → Nat
  | [], _ => 0
  | m :: r, n => if same m n = true then 0 else find same r n + 1
theorem find_le (same : σ → σ → Bool) (l : List σ) (n : σ) : find same l n ≤ l.length := by
  induction l with
  | nil => exact Nat.le_refl _
  | cons m r ih => simp only [find, List.length_cons]; split <;> omega
theorem find_hit (same : σ → σ → Bool) (l : List σ) (n : σ) (h : find same l n < l.length) : same l[find same l n] n = true := by
  induction l with
  | nil => simp at h
  | cons m r ih =>
    by_cases hm : same m n = true
    · simp only [find, hm, if_true, List.getElem_cons_zero]
    · have e : find same (m :: r) n = find same r n + 1 := by simp only [find, hm]; rfl
      simp only [e, List.getElem_cons_succ]
      exact ih (by rw [e, List.length_cons] at h; omega)
theorem find_miss (same : σ → σ → Bool) (l : List σ) (n : σ) (k : Nat) (hk : k < find same l n) : ∃ h : k < l.length, same l[k] n = false := by
  induction l generalizing k with
  | nil => simp [find] at hk
  | cons m r ih =>
    by_cases hm : same m n = true
    · simp only [find, hm, if_true] at hk; omega
    · have e : find same (m :: r) n = find same r n + 1 := by simp only [find, hm]; rfl
      rw [e] at hk
      cases k with
      | zero => exact ⟨by simp, by simpa using hm⟩
      | succ k =>
        obtain ⟨h1, h2⟩ := ih k (by omega)
        exact ⟨by simp only [List.length_cons]; omega, by simpa using h2⟩
theorem find_append (same : σ → σ → Bool) (l r : List σ) (n : σ) (h : find same l n < l.length) : find same (l ++ r) n = find same l n := by
  induction l with
  | nil => simp at h
  | cons m t ih =>
    by_cases hm : same m n = true
    · simp only [List.cons_append, find, hm, if_true]
    · have e : find same (m :: t) n = find same t n + 1 := by simp only [find, hm]; rfl
      rw [e, List.length_cons] at h
      have := ih (by omega)
      simp only [List.cons_append, find, hm]
      simp [this]
theorem find_snoc (same : σ → σ → Bool) (hr : ∀ s, same s s = true) (l : List σ) (n : σ) (h : find same l n = l.length) : find same (l ++ [n]) n = l.length := by
  induction l with
  | nil => simp [find, hr]
  | cons m t ih =>
    by_cases hm : same m n = true
    · simp [find, hm] at h
    · have e : find same (m :: t) n = find same t n + 1 := by simp only [find, hm]; rfl
      rw [e, List.length_cons] at h
      have := ih (by omega)
      simp only [List.cons_append, find, hm]
      simp [this]

/-- What an order of states is made with: where a byte leads, which are one. -/
structure Walk (σ : Type) where
  go : σ → Nat → Option σ
  same : σ → σ → Bool
  fin : σ → Bool

/-- One byte of a state. -/
def Walk.byte (W : Walk σ) (s : σ) (c : Nat) (p : List σ × List Arc) : List σ × List Arc :=
  match W.go s c with
  | none => p
  | some n => (if find W.same p.1 n = p.1.length then p.1 ++ [n] else p.1, grown p.2 c (find W.same p.1 n))
/-- Its first bytes. -/
def Walk.bytes (W : Walk σ) (s : σ) (met : List σ) : Nat → List σ × List Arc
  | 0 => (met, [])
  | c + 1 => W.byte s c (W.bytes s met c)
/-- The first states. -/
def Walk.states (W : Walk σ) (start : σ) : Nat → List σ × List St
  | 0 => ([start], [])
  | i + 1 =>
    match (W.states start i).1[i]? with
    | none => W.states start i
    | some s => ((W.bytes s (W.states start i).1 256).1, (W.states start i).2 ++ [⟨W.fin s, (W.bytes s (W.states start i).1 256).2⟩])

/-- Two lists, place by place. -/
inductive All2 (R : σ → τ → Prop) : List σ → List τ → Prop
  | nil : All2 R [] []
  | cons {a b l m} : R a b → All2 R l m → All2 R (a :: l) (b :: m)
theorem All2.length {R : σ → τ → Prop} {l : List σ} {m : List τ} (h : All2 R l m) : l.length = m.length := by
  induction h with
  | nil => rfl
  | cons _ _ ih => simp [ih]
theorem All2.snoc {R : σ → τ → Prop} {l : List σ} {m : List τ} (h : All2 R l m) {a : σ} {b : τ} (hab : R a b) : All2 R (l ++ [a]) (m ++ [b]) := by
  induction h with
  | nil => exact .cons hab .nil
  | cons h1 _ ih => exact .cons h1 ih
theorem All2.get {R : σ → τ → Prop} {l : List σ} {m : List τ} (h : All2 R l m) (i : Nat) : (l[i]? = none ∧ m[i]? = none) ∨ ∃ a b, l[i]? = some a ∧ m[i]? = some b ∧ R a b := by
  induction h generalizing i with
  | nil => left; simp
  | cons h1 _ ih =>
    cases i with
    | zero => right; exact ⟨_, _, rfl, rfl, h1⟩
    | succ i => simpa using ih i

/-- Two walks that go alike. -/
structure Alike (V : Walk σ) (W : Walk τ) (R : σ → τ → Prop) : Prop where
  fin : ∀ s t, R s t → V.fin s = W.fin t
  go : ∀ s t, R s t → ∀ c, (V.go s c = none ∧ W.go t c = none) ∨ ∃ s' t', V.go s c = some s' ∧ W.go t c = some t' ∧ R s' t'
  same : ∀ s t s' t', R s t → R s' t' → V.same s s' = W.same t t'
theorem Alike.find {V : Walk σ} {W : Walk τ} {R : σ → τ → Prop} (h : Alike V W R) {l : List σ} {m : List τ} (hl : All2 R l m) {a : σ} {b : τ} (hab : R a b) : Au.find V.same l a = Au.find W.same m b := by
  induction hl with
  | nil => rfl
  | cons h1 _ ih => simp only [Au.find]; rw [h.same _ _ _ _ h1 hab, ih]
theorem Alike.byte {V : Walk σ} {W : Walk τ} {R : σ → τ → Prop} (h : Alike V W R) {s : σ} {t : τ} (hst : R s t) (c : Nat) {p : List σ × List Arc} {q : List τ × List Arc} (h1 : All2 R p.1 q.1) (h2 : p.2 = q.2) :
    All2 R (V.byte s c p).1 (W.byte t c q).1 ∧ (V.byte s c p).2 = (W.byte t c q).2 := by
  unfold Walk.byte
  rcases h.go s t hst c with ⟨e1, e2⟩ | ⟨s', t', e1, e2, hr⟩
  · rw [e1, e2]
    exact ⟨h1, h2⟩
  · rw [e1, e2]
    dsimp only
    rw [h.find h1 hr, h1.length, h2]
    refine ⟨?_, rfl⟩
    split
    · exact h1.snoc hr
    · exact h1
theorem Alike.bytes {V : Walk σ} {W : Walk τ} {R : σ → τ → Prop} (h : Alike V W R) {s : σ} {t : τ} (hst : R s t) {l : List σ} {m : List τ} (hl : All2 R l m) (c : Nat) :
    All2 R (V.bytes s l c).1 (W.bytes t m c).1 ∧ (V.bytes s l c).2 = (W.bytes t m c).2 := by
  induction c with
  | zero => exact ⟨hl, rfl⟩
  | succ c ih => exact h.byte hst c ih.1 ih.2
theorem Alike.states {V : Walk σ} {W : Walk τ} {R : σ → τ → Prop} (h : Alike V W R) {s : σ} {t : τ} (hst : R s t) (i : Nat) :
    All2 R (V.states s i).1 (W.states t i).1 ∧ (V.states s i).2 = (W.states t i).2 := by
  induction i with
  | zero => exact ⟨.cons hst .nil, rfl⟩
  | succ i ih =>
    simp only [Walk.states]
    rcases ih.1.get i with ⟨e1, e2⟩ | ⟨a, b, e1, e2, hr⟩
    · rw [e1, e2]
      exact ih
    · rw [e1, e2]
      obtain ⟨h1, h2⟩ := h.bytes hr ih.1 256
      dsimp only
      rw [h2, ih.2, h.fin _ _ hr]
      exact ⟨h1, rfl⟩

/-- The walk of the least automaton. -/
noncomputable def Auto.walk (A : Auto σ) : Walk σ := ⟨A.go, A.same, A.fin⟩
theorem walk_alike (A : Auto σ) (B : Auto τ) : Alike A.walk B.walk (Eqv A B) :=
  ⟨fun _ _ h => h.fin, fun _ _ h c => go_eqv h c, fun _ _ _ _ h g => same_eqv h g⟩

end Au
end Go.Proofs.Ytmpjhbbcfnffhaa
