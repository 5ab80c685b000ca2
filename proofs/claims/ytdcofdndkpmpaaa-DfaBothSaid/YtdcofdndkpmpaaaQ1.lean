/-
  Lemmas on automata, the program's calls and the given ones, put together of 17 texts (part 1).
-/
import Derived.Lib.Hide
import Derived.Test.YtdcofdndkpmpaaaProg
import Derived.WalkKit
import Derived.WalkSpells
import Derived.WalkLawsBesides
import Derived.IntWalk
import Derived.OwnWalk
import Derived.Deep.LoopGhost
import Derived.Deep.OwnRows
import Derived.BigQuiet
import Derived.Laws.AppendOwnNone
import Derived.Laws.StructEq
/-
  Automata plainly: what they take; the least one, state by state in the order in which they are met; that it hangs on what is taken alone.
-/
namespace Go.Proofs.Ytdcofdndkpmpaaa
namespace Au

/-- An automaton over any states. -/
structure Auto (σ : Type) where
  step : σ → Nat → Option σ
  fin : σ → Bool

variable {σ τ : Type}

/-- Is a text taken from here on? -/
def Auto.acc (A : Auto σ) : Option σ → List Nat → Bool
  | none, _ => false
  | some s, [] => A.fin s
  | some s, c :: w => A.acc (A.step s c) w
theorem acc_none (A : Auto σ) (w : List Nat) : A.acc none w = false := by cases w <;> rfl
theorem acc_nil (A : Auto σ) (s : σ) : A.acc (some s) [] = A.fin s := rfl
theorem acc_cons (A : Auto σ) (s : σ) (c : Nat) (w : List Nat) : A.acc (some s) (c :: w) = A.acc (A.step s c) w := rfl

/-- Two states of two automata take the same. -/
def Eqv (A : Auto σ) (B : Auto τ) (s : σ) (t : τ) : Prop := ∀ w, A.acc (some s) w = B.acc (some t) w
theorem Eqv.refl (A : Auto σ) (s : σ) : Eqv A A s s := fun _ => rfl
theorem Eqv.symm {A : Auto σ} {B : Auto τ} {s : σ} {t : τ} (h : Eqv A B s t) : Eqv B A t s := fun w => (h w).symm
theorem Eqv.trans {ρ : Type} {A : Auto σ} {B : Auto τ} {C : Auto ρ} {s : σ} {t : τ} {r : ρ} (h : Eqv A B s t) (g : Eqv B C t r) : Eqv A C s r := fun w => (h w).trans (g w)
theorem Eqv.fin {A : Auto σ} {B : Auto τ} {s : σ} {t : τ} (h : Eqv A B s t) : A.fin s = B.fin t := h []
theorem Eqv.next {A : Auto σ} {B : Auto τ} {s : σ} {t : τ} (h : Eqv A B s t) (c : Nat) (w : List Nat) : A.acc (A.step s c) w = B.acc (B.step t c) w := h (c :: w)

/-- Nothing is taken from here on. -/
def Dead (A : Auto σ) (s : Option σ) : Prop := ∀ w, A.acc s w = false
theorem dead_none (A : Auto σ) : Dead A none := acc_none A

open Classical in
/-- Where a byte leads, if anything is taken from there. -/
noncomputable def Auto.go (A : Auto σ) (s : σ) (c : Nat) : Option σ := if Dead A (A.step s c) then none else A.step s c
open Classical in
/-- Do two states take the same? -/
noncomputable def Auto.same (A : Auto σ) (s t : σ) : Bool := decide (Eqv A A s t)

theorem same_iff (A : Auto σ) (s t : σ) : A.same s t = true ↔ Eqv A A s t := by
  simp [Auto.same]
theorem go_some {A : Auto σ} {s t : σ} {c : Nat} (h : A.go s c = some t) : A.step s c = some t ∧ ¬ Dead A (some t) := by
  unfold Auto.go at h
  split at h
  · cases h
  · rename_i hd
    rw [h] at hd
    exact ⟨h, hd⟩
theorem go_none {A : Auto σ} {s : σ} {c : Nat} (h : A.go s c = none) : Dead A (A.step s c) := by
  unfold Auto.go at h
  split at h
  · assumption
  · rw [h]; exact dead_none A
theorem go_of {A : Auto σ} {s t : σ} {c : Nat} (h : A.step s c = some t) (hd : ¬ Dead A (some t)) : A.go s c = some t := by
  unfold Auto.go
  rw [h, if_neg hd]
theorem go_dead {A : Auto σ} {s : σ} {c : Nat} (hd : Dead A (A.step s c)) : A.go s c = none := by
  unfold Auto.go
  rw [if_pos hd]

/-- Two states that take the same lead alike. -/
theorem go_eqv {A : Auto σ} {B : Auto τ} {s : σ} {t : τ} (h : Eqv A B s t) (c : Nat) : (A.go s c = none ∧ B.go t c = none) ∨ ∃ s' t', A.go s c = some s' ∧ B.go t c = some t' ∧ Eqv A B s' t' := by
  cases hs : A.go s c with
  | none =>
    left
    refine ⟨rfl, go_dead fun w => ?_⟩
    rw [← h.next c w]
    exact go_none hs w
  | some s' =>
    right
    obtain ⟨h1, h2⟩ := go_some hs
    cases ht : B.go t c with
    | none =>
      exfalso
      apply h2
      intro w
      have := h.next c w
      rw [h1] at this
      rw [this]
      exact go_none ht w
    | some t' =>
      obtain ⟨h3, _⟩ := go_some ht
      refine ⟨s', t', rfl, rfl, fun w => ?_⟩
      have := h.next c w
      rwa [h1, h3] at this
theorem same_eqv {A : Auto σ} {B : Auto τ} {s s' : σ} {t t' : τ} (h : Eqv A B s t) (g : Eqv A B s' t') : A.same s s' = B.same t t' := by
  by_cases e : Eqv A A s s'
  · rw [(same_iff A s s').2 e, (same_iff B t t').2 ((h.symm.trans e).trans g)]
  · have e' : ¬ Eqv B B t t' := fun e' => e ((h.trans e').trans g.symm)
    cases h1 : A.same s s' with
    | true => exact absurd ((same_iff A s s').1 h1) e
    | false =>
      cases h2 : B.same t t' with
      | true => exact absurd ((same_iff B t t').1 h2) e'
      | false => rfl

/-- An arc: from a byte to a byte, to a state. -/
structure Arc where
  lo : Int
  hi : Int
  to : Int
  deriving DecidableEq
/-- A state: is it final? Its arcs. -/
structure St where
  fin : Bool
  arcs : List Arc
  deriving DecidableEq

/-- Arcs, with one byte more. -/
def grown (l : List Arc) (c k : Nat) : List Arc :=
  match l.getLast? with
  | some a => if a.hi = (c : Int) - 1 ∧ a.to = (k : Int) then l.dropLast ++ [⟨a.lo, c, k⟩] else l ++ [⟨c, c, k⟩]
  | none => [⟨c, c, k⟩]

/-- The first that is the same, or how many there are. -/
def find (same : σ → σ → Bool) : List σ → σ → Nat
  | [], _ => 0
  | m :: r, n => if same m n = true then 0 else find same r n + 1
theorem find_le (same : σ → σ → Bool) (l : List σ) (n : σ) : find same l n ≤ l.length := by
  induction l with
  | nil => exact Nat.le_refl _
  | cons m r ih => simp only [find, List.length_cons]; split <;> omega
theorem find_hit (same : σ → σ → Bool) (l : List σ) (n : σ) (h : find same l n < l.length) : same l[find same l n] n = true := by
  induction l with
  | nil => simp at h
  | cons m r ih =>
    by_cases hm : same m n = true
    · simp only [find, hm, if_true, List.getElem_cons_zero]
    · have e : find same (m :: r) n = find same r n + 1 := by simp only [find, hm]; rfl
      simp only [e, List.getElem_cons_succ]
      exact ih (by rw [e, List.length_cons] at h; omega)
theorem find_miss (same : σ → σ → Bool) (l : List σ) (n : σ) (k : Nat) (hk : k < find same l n) : ∃ h : k < l.length, same l[k] n = false := by
  induction l generalizing k with
  | nil => simp [find] at hk
  | cons m r ih =>
    by_cases hm : same m n = true
    · simp only [find, hm, if_true] at hk; omega
    · have e : find same (m :: r) n = find same r n + 1 := by simp only [find, hm]; rfl
      rw [e] at hk
      cases k with
      | zero => exact ⟨by simp, by simpa using hm⟩
      | succ k =>
        obtain ⟨h1, h2⟩ := ih k (by omega)
        exact ⟨by simp only [List.length_cons]; omega, by simpa using h2⟩
theorem find_append (same : σ → σ → Bool) (l r : List σ) (n : σ) (h : find same l n < l.length) : find same (l ++ r) n = find same l n := by
  induction l with
  | nil => simp at h
  | cons m t ih =>
    by_cases hm : same m n = true
    · simp only [List.cons_append, find, hm, if_true]
    · have e : find same (m :: t) n = find same t n + 1 := by simp only [find, hm]; rfl
      rw [e, List.length_cons] at h
      have := ih (by omega)
      simp only [List.cons_append, find, hm]
      simp [this]
theorem find_snoc (same : σ → σ → Bool) (hr : ∀ s, same s s = true) (l : List σ) (n : σ) (h : find same l n = l.length) : find same (l ++ [n]) n = l.length := by
  induction l with
  | nil => simp [find, hr]
  | cons m t ih =>
    by_cases hm : same m n = true
    · simp [find, hm] at h
    · have e : find same (m :: t) n = find same t n + 1 := by simp only [find, hm]; rfl
      rw [e, List.length_cons] at h
      have := ih (by omega)
      simp only [List.cons_append, find, hm]
      simp [this]

/-- What an order of states is made with: where a byte leads, which are one. -/
structure Walk (σ : Type) where
  go : σ → Nat → Option σ
  same : σ → σ → Bool
  fin : σ → Bool

/-- One byte of a state. -/
def Walk.byte (W : Walk σ) (s : σ) (c : Nat) (p : List σ × List Arc) : List σ × List Arc :=
  match W.go s c with
  | none => p
  | some n => (if find W.same p.1 n = p.1.length then p.1 ++ [n] else p.1, grown p.2 c (find W.same p.1 n))
/-- Its first bytes. -/
def Walk.bytes (W : Walk σ) (s : σ) (met : List σ) : Nat → List σ × List Arc
  | 0 => (met, [])
  | c + 1 => W.byte s c (W.bytes s met c)
/-- The first states. -/
def Walk.states (W : Walk σ) (start : σ) : Nat → List σ × List St
  | 0 => ([start], [])
  | i + 1 =>
    match (W.states start i).1[i]? with
    | none => W.states start i
    | some s => ((W.bytes s (W.states start i).1 256).1, (W.states start i).2 ++ [⟨W.fin s, (W.bytes s (W.states start i).1 256).2⟩])

/-- Two lists, place by place. -/
inductive All2 (R : σ → τ → Prop) : List σ → List τ → Prop
  | nil : All2 R [] []
  | cons {a b l m} : R a b → All2 R l m → All2 R (a :: l) (b :: m)
theorem All2.length {R : σ → τ → Prop} {l : List σ} {m : List τ} (h : All2 R l m) : l.length = m.length := by
  induction h with
  | nil => rfl
  | cons _ _ ih => simp [ih]
theorem All2.snoc {R : σ → τ → Prop} {l : List σ} {m : List τ} (h : All2 R l m) {a : σ} {b : τ} (hab : R a b) : All2 R (l ++ [a]) (m ++ [b]) := by
  induction h with
  | nil => exact .cons hab .nil
  | cons h1 _ ih => exact .cons h1 ih
theorem All2.get {R : σ → τ → Prop} {l : List σ} {m : List τ} (h : All2 R l m) (i : Nat) : (l[i]? = none ∧ m[i]? = none) ∨ ∃ a b, l[i]? = some a ∧ m[i]? = some b ∧ R a b := by
  induction h generalizing i with
  | nil => left; simp
  | cons h1 _ ih =>
    cases i with
    | zero => right; exact ⟨_, _, rfl, rfl, h1⟩
    | succ i => simpa using ih i

/-- Two walks that go alike. -/
structure Alike (V : Walk σ) (W : Walk τ) (R : σ → τ → Prop) : Prop where
  fin : ∀ s t, R s t → V.fin s = W.fin t
  go : ∀ s t, R s t → ∀ c, (V.go s c = none ∧ W.go t c = none) ∨ ∃ s' t', V.go s c = some s' ∧ W.go t c = some t' ∧ R s' t'
  same : ∀ s t s' t', R s t → R s' t' → V.same s s' = W.same t t'
theorem Alike.find {V : Walk σ} {W : Walk τ} {R : σ → τ → Prop} (h : Alike V W R) {l : List σ} {m : List τ} (hl : All2 R l m) {a : σ} {b : τ} (hab : R a b) : Au.find V.same l a = Au.find W.same m b := by
  induction hl with
  | nil => rfl
  | cons h1 _ ih => simp only [Au.find]; rw [h.same _ _ _ _ h1 hab, ih]
theorem Alike.byte {V : Walk σ} {W : Walk τ} {R : σ → τ → Prop} (h : Alike V W R) {s : σ} {t : τ} (hst : R s t) (c : Nat) {p : List σ × List Arc} {q : List τ × List Arc} (h1 : All2 R p.1 q.1) (h2 : p.2 = q.2) :
    All2 R (V.byte s c p).1 (W.byte t c q).1 ∧ (V.byte s c p).2 = (W.byte t c q).2 := by
  unfold Walk.byte
  rcases h.go s t hst c with ⟨e1, e2⟩ | ⟨s', t', e1, e2, hr⟩
  · rw [e1, e2]
    exact ⟨h1, h2⟩
  · rw [e1, e2]
    dsimp only
    rw [h.find h1 hr, h1.length, h2]
    refine ⟨?_, rfl⟩
    split
    · exact h1.snoc hr
    · exact h1
theorem Alike.bytes {V : Walk σ} {W : Walk τ} {R : σ → τ → Prop} (h : Alike V W R) {s : σ} {t : τ} (hst : R s t) {l : List σ} {m : List τ} (hl : All2 R l m) (c : Nat) :
    All2 R (V.bytes s l c).1 (W.bytes t m c).1 ∧ (V.bytes s l c).2 = (W.bytes t m c).2 := by
  induction c with
  | zero => exact ⟨hl, rfl⟩
  | succ c ih => exact h.byte hst c ih.1 ih.2
theorem Alike.states {V : Walk σ} {W : Walk τ} {R : σ → τ → Prop} (h : Alike V W R) {s : σ} {t : τ} (hst : R s t) (i : Nat) :
    All2 R (V.states s i).1 (W.states t i).1 ∧ (V.states s i).2 = (W.states t i).2 := by
  induction i with
  | zero => exact ⟨.cons hst .nil, rfl⟩
  | succ i ih =>
    simp only [Walk.states]
    rcases ih.1.get i with ⟨e1, e2⟩ | ⟨a, b, e1, e2, hr⟩
    · rw [e1, e2]
      exact ih
    · rw [e1, e2]
      obtain ⟨h1, h2⟩ := h.bytes hr ih.1 256
      dsimp only
      rw [h2, ih.2, h.fin _ _ hr]
      exact ⟨h1, rfl⟩

/-- The walk of the least automaton. -/
noncomputable def Auto.walk (A : Auto σ) : Walk σ := ⟨A.go, A.same, A.fin⟩
theorem walk_alike (A : Auto σ) (B : Auto τ) : Alike A.walk B.walk (Eqv A B) :=
  ⟨fun _ _ h => h.fin, fun _ _ h c => go_eqv h c, fun _ _ _ _ h g => same_eqv h g⟩

end Au
end Go.Proofs.Ytdcofdndkpmpaaa

/-
  Rows of arcs: what they lead to, that they are an automaton's; the least automaton takes what the first one takes.
-/
namespace Go.Proofs.Ytdcofdndkpmpaaa
namespace Au
variable {σ τ : Type}

/-- Where the first arc that holds a number leads. -/
def look : List Arc → Int → Option Int
  | [], _ => none
  | a :: r, x => if a.lo ≤ x ∧ x ≤ a.hi then some a.to else look r x
theorem look_append (l r : List Arc) (x : Int) : look (l ++ r) x = (look l x).or (look r x) := by
  induction l with
  | nil => simp [look]
  | cons a t ih =>
    simp only [List.cons_append, look]
    split
    · simp
    · exact ih

/-- Arcs as 8.1 asks for them, of so many states, below byte c. -/
def Row (n : Nat) (c : Int) (l : List Arc) : Prop :=
  (∀ k (h : k < l.length), 0 ≤ l[k].lo ∧ l[k].lo ≤ l[k].hi ∧ l[k].hi < c ∧ 0 ≤ l[k].to ∧ l[k].to < n) ∧ ∀ k (h : k + 1 < l.length), l[k].hi < l[k + 1].lo
theorem Row.nil (n : Nat) (c : Int) : Row n c [] := ⟨fun k h => by simp at h, fun k h => by simp at h⟩
theorem Row.mono {n m : Nat} {c d : Int} {l : List Arc} (h : Row n c l) (hn : n ≤ m) (hc : c ≤ d) : Row m d l :=
  ⟨fun k hk => by have := h.1 k hk; omega, h.2⟩
theorem Row.snoc {n : Nat} {c d : Int} {l : List Arc} (h : Row n c l) (a : Arc) (h1 : 0 ≤ a.lo) (h2 : a.lo ≤ a.hi) (h3 : a.hi < d) (h4 : 0 ≤ a.to) (h5 : a.to < n) (h6 : ∀ k (hk : k < l.length), l[k].hi < a.lo) (hcd : c ≤ d) : Row n d (l ++ [a]) := by
  refine ⟨fun k hk => ?_, fun k hk => ?_⟩
  · rw [List.length_append] at hk
    by_cases hl : k < l.length
    · have := h.1 k hl
      rw [List.getElem_append_left hl]
      omega
    · have e : k = l.length := by simp at hk; omega
      subst e
      simp
      omega
  · rw [List.length_append] at hk
    simp only [List.length_cons, List.length_nil] at hk
    by_cases hl : k + 1 < l.length
    · rw [List.getElem_append_left (by omega), List.getElem_append_left hl]
      exact h.2 k hl
    · have e : k + 1 = l.length := by omega
      have h7 := h6 k (by omega)
      rw [List.getElem_append_left (by omega)]
      simp only [e, List.getElem_append_right (Nat.le_refl _), Nat.sub_self, List.getElem_cons_zero]
      exact h7
theorem Row.init {n : Nat} {c : Int} {l : List Arc} {a : Arc} (h : Row n c (l ++ [a])) : Row n c l ∧ (0 ≤ a.lo ∧ a.lo ≤ a.hi ∧ a.hi < c ∧ 0 ≤ a.to ∧ a.to < n) ∧ ∀ k (hk : k < l.length), l[k].hi < a.lo := by
  have hlen : (l ++ [a]).length = l.length + 1 := by simp
  refine ⟨⟨fun k hk => ?_, fun k hk => ?_⟩, ?_, ?_⟩
  · have := h.1 k (by omega)
    rwa [List.getElem_append_left hk] at this
  · have := h.2 k (by omega)
    rwa [List.getElem_append_left (by omega), List.getElem_append_left hk] at this
  · have := h.1 l.length (by omega)
    simpa using this
  · intro k hk
    have main : ∀ d k, k + d + 1 = l.length → ∀ (hk : k < l.length), l[k].hi < a.lo := by
      intro d
      induction d with
      | zero =>
        intro k e hk
        have h1 := h.2 k (by omega)
        have e' : k + 1 = l.length := by omega
        simp only [List.getElem_append_left hk, e', List.getElem_append_right (Nat.le_refl _), Nat.sub_self, List.getElem_cons_zero] at h1
        exact h1
      | succ d ih =>
        intro k e hk
        have h1 := ih (k + 1) (by omega) (by omega)
        have h2 := h.2 k (by omega)
        rw [List.getElem_append_left hk, List.getElem_append_left (by omega)] at h2
        have h3 := h.1 (k + 1) (by omega)
        rw [List.getElem_append_left (by omega)] at h3
        omega
    exact main (l.length - k - 1) k (by omega) hk

theorem look_above {n : Nat} {c : Int} {l : List Arc} (h : Row n c l) (x : Int) (hx : c ≤ x) : look l x = none := by
  induction l with
  | nil => rfl
  | cons a r ih =>
    simp only [look]
    have h0 := h.1 0 (by simp)
    simp only [List.getElem_cons_zero] at h0
    rw [if_neg (by omega)]
    apply ih
    exact ⟨fun k hk => by have := h.1 (k + 1) (by simp; omega); simpa using this, fun k hk => by have := h.2 (k + 1) (by simp; omega); simpa using this⟩

theorem last_cases (l : List Arc) : l = [] ∨ ∃ r a, l = r ++ [a] := by
  rcases List.eq_nil_or_concat l with h | ⟨r, a, h⟩
  · exact .inl h
  · exact .inr ⟨r, a, by rw [h, List.concat_eq_append]⟩
theorem grown_snoc (r : List Arc) (a : Arc) (c k : Nat) : grown (r ++ [a]) c k = if a.hi = (c : Int) - 1 ∧ a.to = (k : Int) then r ++ [⟨a.lo, c, k⟩] else r ++ [a] ++ [⟨c, c, k⟩] := by
  unfold grown
  simp
theorem grown_nil (c k : Nat) : grown [] c k = [⟨c, c, k⟩] := rfl
theorem grown_row {n : Nat} {l : List Arc} {c k : Nat} (h : Row n c l) (hk : k < n) : Row n (c + 1) (grown l c k) := by
  rcases last_cases l with rfl | ⟨r, a, rfl⟩
  · rw [grown_nil]
    exact (Row.nil n 0).snoc ⟨c, c, k⟩ (by simp) (by simp) (by simp; omega) (by simp) (by simp; omega) (fun k hk => by simp at hk) (by omega)
  · rw [grown_snoc]
    obtain ⟨h1, h2, h3⟩ := h.init
    split
    · exact h1.snoc ⟨a.lo, c, k⟩ (by simp; omega) (by simp; omega) (by simp; omega) (by simp) (by simp; omega) h3 (by omega)
    · refine h.snoc ⟨c, c, k⟩ (by simp) (by simp) (by simp; omega) (by simp) (by simp; omega) (fun j hj => ?_) (by omega)
      have := (h.1 j hj).2.2.1
      simpa using this
theorem grown_look {n : Nat} {l : List Arc} {c k : Nat} (h : Row n c l) (x : Int) : look (grown l c k) x = if x = c then some (k : Int) else look l x := by
  rcases last_cases l with rfl | ⟨r, a, rfl⟩
  · rw [grown_nil]
    simp only [look]
    by_cases hx : x = c
    · rw [if_pos hx, if_pos (by omega)]
    · rw [if_neg hx, if_neg (by omega)]
  · rw [grown_snoc]
    obtain ⟨h1, h2, h3⟩ := h.init
    split
    · rename_i hc
      rw [look_append, look_append]
      by_cases hx : x = c
      · rw [if_pos hx]
        have : look r x = none := by
          apply look_above (c := a.lo) (n := n) ⟨fun k hk => ?_, h1.2⟩
          · omega
          · have := h1.1 k hk
            have := h3 k hk
            omega
        rw [this]
        simp only [look]
        rw [if_pos (by omega)]
        rfl
      · rw [if_neg hx]
        congr 1
        simp only [look]
        by_cases hy : a.lo ≤ x ∧ x ≤ a.hi
        · rw [if_pos hy, if_pos (by omega), hc.2]
        · rw [if_neg hy, if_neg (by omega)]
    · rw [look_append _ [_]]
      by_cases hx : x = c
      · rw [if_pos hx, look_above h x (by omega)]
        simp only [look]
        rw [if_pos (by omega)]
        rfl
      · rw [if_neg hx]
        simp only [look]
        rw [if_neg (by omega)]
        simp

/-- An automaton out of rows. -/
def ofL (d : List St) : Auto Nat where
  step := fun i c => match d[i]? with
    | none => none
    | some s => (look s.arcs c).map Int.toNat
  fin := fun i => match d[i]? with
    | none => false
    | some s => s.fin

/-- How far the states met go. -/
def Walk.met (W : Walk σ) (s : σ) (i : Nat) : List σ := (W.states s i).1
def Walk.out (W : Walk σ) (s : σ) (i : Nat) : List St := (W.states s i).2
/-- All states are met. -/
def Walk.Done (W : Walk σ) (s : σ) (i : Nat) : Prop := (W.met s i).length ≤ i

theorem byte_grows (W : Walk σ) (s : σ) (c : Nat) (p : List σ × List Arc) : ∃ r, (W.byte s c p).1 = p.1 ++ r := by
  unfold Walk.byte
  split
  · exact ⟨[], by simp⟩
  · dsimp only
    split
    · exact ⟨_, rfl⟩
    · exact ⟨[], by simp⟩
theorem bytes_grows (W : Walk σ) (s : σ) (m : List σ) (c : Nat) : ∃ r, (W.bytes s m c).1 = m ++ r := by
  induction c with
  | zero => exact ⟨[], by simp [Walk.bytes]⟩
  | succ c ih =>
    obtain ⟨r, h⟩ := ih
    obtain ⟨t, g⟩ := byte_grows W s c (W.bytes s m c)
    exact ⟨r ++ t, by rw [Walk.bytes, g, h, List.append_assoc]⟩
theorem met_grows (W : Walk σ) (s : σ) (i : Nat) : ∃ r, W.met s (i + 1) = W.met s i ++ r := by
  unfold Walk.met
  simp only [Walk.states]
  split
  · exact ⟨[], by simp⟩
  · exact bytes_grows W _ _ 256
theorem met_mono (W : Walk σ) (s : σ) (i j : Nat) : ∃ r, W.met s (i + j) = W.met s i ++ r := by
  induction j with
  | zero => exact ⟨[], by simp⟩
  | succ j ih =>
    obtain ⟨r, h⟩ := ih
    obtain ⟨t, g⟩ := met_grows W s (i + j)
    exact ⟨r ++ t, by rw [← Nat.add_assoc, g, h, List.append_assoc]⟩
theorem done_stays (W : Walk σ) (s : σ) (i j : Nat) (h : W.Done s i) : W.states s (i + j) = W.states s i := by
  induction j with
  | zero => rfl
  | succ j ih =>
    rw [← Nat.add_assoc, Walk.states, ih]
    have : (W.states s i).1[i + j]? = none := List.getElem?_eq_none (by unfold Walk.Done Walk.met at h; omega)
    rw [this]
theorem done_same (W : Walk σ) (s : σ) (i j : Nat) (hi : W.Done s i) (hj : W.Done s j) : W.states s i = W.states s j := by
  rcases Nat.le_total i j with h | h
  · obtain ⟨d, rfl⟩ : ∃ d, j = i + d := ⟨j - i, by omega⟩
    exact (done_stays W s i d hi).symm
  · obtain ⟨d, rfl⟩ : ∃ d, i = j + d := ⟨i - j, by omega⟩
    exact done_stays W s j d hj
theorem out_length (W : Walk σ) (s : σ) (i : Nat) : (W.out s i).length = min i (W.met s i).length := by
  induction i with
  | zero => simp [Walk.out, Walk.states]
  | succ i ih =>
    obtain ⟨r, hr⟩ := met_grows W s i
    have hl := congrArg List.length hr
    rw [List.length_append] at hl
    unfold Walk.out Walk.met at *
    simp only [Walk.states] at hl ⊢
    split
    · rename_i hn
      rw [hn] at hl
      have : (W.states s i).1.length ≤ i := List.getElem?_eq_none_iff.1 hn
      dsimp only at hl
      omega
    · rename_i a ha
      have : i < (W.states s i).1.length := (List.getElem?_eq_some_iff.1 ha).1
      rw [ha] at hl
      dsimp only at hl ⊢
      rw [List.length_append, ih]
      simp
      omega
end Au
end Go.Proofs.Ytdcofdndkpmpaaa

/-
  What the states met in order take: what the first automaton takes; how many they may be.
-/
namespace Go.Proofs.Ytdcofdndkpmpaaa
namespace Au
variable {σ τ : Type}

/-- What a row of arcs says of a state, where the states that were met are these. -/
structure Told (W : Walk σ) (met : List σ) (s : σ) (c : Nat) (arcs : List Arc) : Prop where
  row : Row met.length c arcs
  look : ∀ x, x < c → look arcs (x : Int) = (W.go s x).map (fun n => ((find W.same met n : Nat) : Int))
  found : ∀ x n, x < c → W.go s x = some n → find W.same met n < met.length
theorem Told.more {W : Walk σ} {met : List σ} {s : σ} {c : Nat} {arcs : List Arc} (h : Told W met s c arcs) (r : List σ) : Told W (met ++ r) s c arcs where
  row := h.row.mono (by simp) (Int.le_refl _)
  look := fun x hx => by
    rw [h.look x hx]
    cases hg : W.go s x with
    | none => rfl
    | some n =>
      simp only [Option.map_some]
      rw [find_append _ _ _ _ (h.found x n hx hg)]
  found := fun x n hx hg => by
    have := h.found x n hx hg
    rw [find_append _ _ _ _ this, List.length_append]
    omega
theorem bytes_told (W : Walk σ) (hr : ∀ s, W.same s s = true) (s : σ) (met : List σ) (c : Nat) : Told W (W.bytes s met c).1 s c (W.bytes s met c).2 := by
  induction c with
  | zero => exact ⟨Row.nil _ _, fun x hx => by omega, fun x n hx => by omega⟩
  | succ c ih =>
    simp only [Walk.bytes]
    generalize W.bytes s met c = p at *
    unfold Walk.byte
    cases hg : W.go s c with
    | none =>
      refine ⟨ih.row.mono (Nat.le_refl _) (by omega), fun x hx => ?_, fun x n hx hn => ?_⟩
      · by_cases hxc : x = c
        · subst hxc
          rw [hg, look_above ih.row _ (Int.le_refl _)]
          rfl
        · exact ih.look x (by omega)
      · by_cases hxc : x = c
        · subst hxc
          rw [hg] at hn
          cases hn
        · exact ih.found x n (by omega) hn
    | some n =>
      dsimp only
      have key : ∀ met' : List σ, (∃ r, met' = p.1 ++ r) → find W.same met' n = find W.same p.1 n → find W.same p.1 n < met'.length → Told W met' s (c + 1) (grown p.2 c (find W.same p.1 n)) := by
        rintro met' ⟨r, rfl⟩ h1 h2
        have ih' := ih.more r
        have hrow : Row (p.1 ++ r).length ((c : Int) + 1) (grown p.2 c (find W.same p.1 n)) := grown_row ih'.row h2
        refine ⟨hrow, fun x hx => ?_, fun x m hx hm => ?_⟩
        · rw [grown_look ih'.row]
          by_cases hxc : x = c
          · subst hxc
            rw [if_pos rfl, hg, Option.map_some, h1]
          · rw [if_neg (by omega)]
            exact ih'.look x (by omega)
        · by_cases hxc : x = c
          · subst hxc
            rw [hg] at hm
            cases hm
            rw [h1]
            exact h2
          · exact ih'.found x m (by omega) hm
      by_cases hf : find W.same p.1 n = p.1.length
      · rw [if_pos hf]
        refine key _ ⟨[n], rfl⟩ ?_ ?_
        · rw [find_snoc _ hr _ _ hf, hf]
        · rw [hf]; simp
      · rw [if_neg hf]
        have := find_le W.same p.1 n
        exact key _ ⟨[], by simp⟩ rfl (by omega)

/-- Each state that has been told of. -/
theorem states_told (W : Walk σ) (hr : ∀ s, W.same s s = true) (s : σ) (i k : Nat) (hk : k < (W.out s i).length) :
    ∃ a arcs, (W.met s i)[k]? = some a ∧ (W.out s i)[k]? = some ⟨W.fin a, arcs⟩ ∧ Told W (W.met s i) a 256 arcs := by
  induction i with
  | zero => simp [Walk.out, Walk.states] at hk
  | succ i ih =>
    have hol := out_length W s i
    unfold Walk.out Walk.met at *
    simp only [Walk.states] at hk ⊢
    cases hi : (W.states s i).1[i]? with
    | none =>
      rw [hi] at hk
      exact ih hk
    | some b =>
      rw [hi] at hk
      dsimp only at hk ⊢
      obtain ⟨r, hbr⟩ := bytes_grows W b (W.states s i).1 256
      have hilt : i < (W.states s i).1.length := (List.getElem?_eq_some_iff.1 hi).1
      have hoi : (W.states s i).2.length = i := by omega
      by_cases hki : k < (W.states s i).2.length
      · obtain ⟨a, arcs, h1, h2, h3⟩ := ih hki
        have hkm : k < (W.states s i).1.length := (List.getElem?_eq_some_iff.1 h1).1
        refine ⟨a, arcs, ?_, ?_, ?_⟩
        · rw [hbr, List.getElem?_append_left hkm]
          exact h1
        · rw [List.getElem?_append_left hki]
          exact h2
        · rw [hbr]
          exact h3.more r
      · rw [List.length_append] at hk
        simp only [List.length_cons, List.length_nil] at hk
        have e : k = i := by omega
        subst e
        refine ⟨b, _, ?_, ?_, bytes_told W hr b (W.states s k).1 256⟩
        · rw [hbr, List.getElem?_append_left hilt]
          exact hi
        · rw [List.getElem?_append_right (by omega), hoi, Nat.sub_self]
          rfl

/-- A walk that goes as an automaton does, but for states from which nothing is taken. -/
structure Fair (W : Walk σ) (A : Auto σ) : Prop where
  fin : ∀ s, W.fin s = A.fin s
  go : ∀ s c, (W.go s c = none ∧ Dead A (A.step s c)) ∨ ∃ t, W.go s c = some t ∧ A.step s c = some t
  refl : ∀ s, W.same s s = true
  same : ∀ s t, W.same s t = true → Eqv A A s t
  top : ∀ s c, 256 ≤ c → Dead A (A.step s c)

theorem Fair.takes {W : Walk σ} {A : Auto σ} (h : Fair W A) (s : σ) (i : Nat) (hd : W.Done s i) (w : List Nat) (k : Nat) (a : σ) (hk : (W.met s i)[k]? = some a) : (ofL (W.out s i)).acc (some k) w = A.acc (some a) w := by
  have hol := out_length W s i
  unfold Walk.Done at hd
  have hkl : k < (W.met s i).length := (List.getElem?_eq_some_iff.1 hk).1
  induction w generalizing k a with
  | nil =>
    obtain ⟨b, arcs, h1, h2, _⟩ := states_told W h.refl s i k (by omega)
    rw [hk] at h1
    cases h1
    simp only [acc_nil, ofL, h2]
    exact h.fin a
  | cons c w ih =>
    obtain ⟨b, arcs, h1, h2, h3⟩ := states_told W h.refl s i k (by omega)
    rw [hk] at h1
    cases h1
    rw [acc_cons, acc_cons]
    have hs : (ofL (W.out s i)).step k c = (look arcs c).map Int.toNat := by
      simp only [ofL, h2]
    rw [hs]
    by_cases hc : c < 256
    · rw [h3.look c hc]
      rcases h.go a c with ⟨g1, g2⟩ | ⟨t, g1, g2⟩
      · rw [g1, Option.map_none, Option.map_none, acc_none]
        exact (g2 w).symm
      · have hf := h3.found c t hc g1
        rw [g1, Option.map_some, Option.map_some, Int.toNat_natCast, g2, ih _ ((W.met s i)[find W.same (W.met s i) t]) (List.getElem?_eq_getElem hf) hf]
        exact h.same _ _ (find_hit W.same (W.met s i) t hf) w
    · have : look arcs (c : Int) = none := look_above h3.row _ (by omega)
      rw [this]
      simp only [Option.map_none, acc_none]
      exact (h.top a c (by omega) w).symm

theorem fair_walk (A : Auto σ) (top : ∀ s c, 256 ≤ c → A.step s c = none) : Fair A.walk A where
  fin := fun _ => rfl
  go := fun s c => by
    show (A.go s c = none ∧ _) ∨ ∃ t, A.go s c = some t ∧ _
    cases h : A.go s c with
    | none => exact .inl ⟨rfl, go_none h⟩
    | some t => exact .inr ⟨t, rfl, (go_some h).1⟩
  refl := fun s => (same_iff A s s).2 (Eqv.refl A s)
  same := fun s t h => (same_iff A s t).1 h
  top := fun s c h w => by rw [top s c h]; exact acc_none A w

/-- The states met are no two the same. -/
theorem byte_pair (W : Walk σ) (s : σ) (c : Nat) (p : List σ × List Arc) (h : p.1.Pairwise (fun a b => W.same a b = false)) : (W.byte s c p).1.Pairwise (fun a b => W.same a b = false) := by
  unfold Walk.byte
  split
  · exact h
  · rename_i n hn
    dsimp only
    split
    · rename_i hf
      rw [List.pairwise_append]
      refine ⟨h, List.pairwise_singleton _ _, fun a ha b hb => ?_⟩
      rw [List.mem_singleton] at hb
      subst hb
      obtain ⟨k, hk, rfl⟩ := List.getElem_of_mem ha
      exact (find_miss W.same p.1 b k (by omega)).2
    · exact h
theorem bytes_pair (W : Walk σ) (s : σ) (m : List σ) (c : Nat) (h : m.Pairwise (fun a b => W.same a b = false)) : (W.bytes s m c).1.Pairwise (fun a b => W.same a b = false) := by
  induction c with
  | zero => exact h
  | succ c ih => exact byte_pair W s c _ ih
theorem met_pair (W : Walk σ) (s : σ) (i : Nat) : (W.met s i).Pairwise (fun a b => W.same a b = false) := by
  induction i with
  | zero => exact List.pairwise_singleton _ _
  | succ i ih =>
    unfold Walk.met at *
    simp only [Walk.states]
    split
    · exact ih
    · exact bytes_pair W _ _ 256 ih
/-- They are all of a set that is never left. -/
theorem byte_all (W : Walk σ) (P : σ → Prop) (hP : ∀ s c t, P s → W.go s c = some t → P t) (s : σ) (hs : P s) (c : Nat) (p : List σ × List Arc) (h : ∀ x ∈ p.1, P x) : ∀ x ∈ (W.byte s c p).1, P x := by
  unfold Walk.byte
  split
  · exact h
  · rename_i n hn
    dsimp only
    split
    · intro x hx
      rw [List.mem_append, List.mem_singleton] at hx
      rcases hx with hx | rfl
      · exact h x hx
      · exact hP s c x hs hn
    · exact h
theorem bytes_all (W : Walk σ) (P : σ → Prop) (hP : ∀ s c t, P s → W.go s c = some t → P t) (s : σ) (hs : P s) (m : List σ) (c : Nat) (h : ∀ x ∈ m, P x) : ∀ x ∈ (W.bytes s m c).1, P x := by
  induction c with
  | zero => exact h
  | succ c ih => exact byte_all W P hP s hs c _ ih
theorem met_all (W : Walk σ) (P : σ → Prop) (hP : ∀ s c t, P s → W.go s c = some t → P t) (s : σ) (hs : P s) (i : Nat) : ∀ x ∈ W.met s i, P x := by
  induction i with
  | zero =>
    intro x hx
    have : x = s := by simpa [Walk.met, Walk.states] using hx
    rw [this]
    exact hs
  | succ i ih =>
    unfold Walk.met at *
    simp only [Walk.states]
    split
    · exact ih
    · rename_i a ha
      exact bytes_all W P hP a (ih a (List.mem_of_getElem? ha)) _ 256 ih
/-- No more of them than numbers that tell them apart. -/
theorem met_few (W : Walk σ) (hr : ∀ s, W.same s s = true) (f : σ → Nat) (n : Nat) (P : σ → Prop) (hP : ∀ s c t, P s → W.go s c = some t → P t) (s : σ) (hs : P s) (hf : ∀ x, P x → f x < n) (hi : ∀ x y, P x → P y → f x = f y → x = y) (i : Nat) : (W.met s i).length ≤ n := by
  have h1 := met_pair W s i
  have h2 := met_all W P hP s hs i
  have hn : ((W.met s i).map f).Nodup := by
    unfold List.Nodup
    rw [List.pairwise_map]
    refine List.Pairwise.imp_of_mem (fun {a b} ha hb hab e => ?_) h1
    have := hi a b (h2 a ha) (h2 b hb) e
    subst this
    rw [hr] at hab
    cases hab
  have hsub : (W.met s i).map f ⊆ List.range n := fun x hx => by
    obtain ⟨a, ha, rfl⟩ := List.mem_map.1 hx
    exact List.mem_range.2 (hf a (h2 a ha))
  have := hn.length_le_of_subset hsub
  simpa using this

end Au
end Go.Proofs.Ytdcofdndkpmpaaa

/-
  Lists of states: which are automata; the least one of one; of what two take.
-/
namespace Go.Proofs.Ytdcofdndkpmpaaa
namespace Au
variable {σ τ : Type}

/-- A list of states is an automaton. -/
structure Fits (d : List St) : Prop where
  pos : 0 < d.length
  top : d.length ≤ 20000
  row : ∀ i (h : i < d.length), Row d.length 256 d[i].arcs

theorem look_in {n : Nat} {l : List Arc} (h : ∀ k (h : k < l.length), 0 ≤ l[k].to ∧ l[k].to < n) {x t : Int} (hx : look l x = some t) : 0 ≤ t ∧ t < n := by
  induction l with
  | nil => cases hx
  | cons a r ih =>
    simp only [look] at hx
    split at hx
    · cases hx
      exact h 0 (by simp)
    · exact ih (fun k hk => by have := h (k + 1) (by simp; omega); simpa using this) hx
theorem ofL_top {d : List St} (hr : ∀ i (h : i < d.length), Row d.length 256 d[i].arcs) (s c : Nat) (hc : 256 ≤ c) : (ofL d).step s c = none := by
  simp only [ofL]
  split
  · rfl
  · rename_i a ha
    obtain ⟨hl, rfl⟩ := List.getElem?_eq_some_iff.1 ha
    rw [look_above (hr s hl) _ (by omega)]
    rfl
theorem ofL_in {d : List St} (hr : ∀ i (h : i < d.length), Row d.length 256 d[i].arcs) {s c t : Nat} (h : (ofL d).step s c = some t) : t < d.length := by
  simp only [ofL] at h
  split at h
  · cases h
  · rename_i a ha
    obtain ⟨hl, rfl⟩ := List.getElem?_eq_some_iff.1 ha
    cases hx : look d[s].arcs c with
    | none => rw [hx] at h; cases h
    | some u =>
      rw [hx] at h
      cases h
      have := look_in (n := d.length) (fun k hk => by have := (hr s hl).1 k hk; omega) hx
      omega

/-- The least automaton that takes the same. -/
noncomputable def least (d : List St) : List St := (ofL d).walk.out 0 d.length
theorem go_in {d : List St} (hr : ∀ i (h : i < d.length), Row d.length 256 d[i].arcs) (s c t : Nat) (_ : s < d.length) (h : (ofL d).walk.go s c = some t) : t < d.length := ofL_in hr (go_some h).1
theorem least_done {d : List St} (h0 : 0 < d.length) (hr : ∀ i (h : i < d.length), Row d.length 256 d[i].arcs) : (ofL d).walk.Done 0 d.length :=
  met_few (ofL d).walk (fair_walk _ (ofL_top hr)).refl id d.length (fun x => x < d.length) (go_in hr) 0 h0 (fun _ h => h) (fun _ _ _ _ h => h) d.length
/-- Walks that meet the same make the same. -/
theorem alike_out {A : Auto σ} {B : Auto τ} {s : σ} {t : τ} (h : Eqv A B s t) {i j : Nat} (hi : A.walk.Done s i) (hj : B.walk.Done t j) : A.walk.out s i = B.walk.out t j := by
  have h1 := (walk_alike A B).states h i
  have hd : B.walk.Done t i := by
    unfold Walk.Done Walk.met at *
    rw [← h1.1.length]
    exact hi
  have h2 := done_same B.walk t i j hd hj
  unfold Walk.out
  rw [h1.2, h2]
theorem out_pos (W : Walk σ) (s : σ) (i : Nat) : 0 < (W.met s i).length := by
  obtain ⟨r, h⟩ := met_mono W s 0 i
  rw [Nat.zero_add] at h
  rw [h]
  simp [Walk.met, Walk.states]
theorem out_rows (W : Walk σ) (hr : ∀ s, W.same s s = true) (s : σ) (i : Nat) (hd : W.Done s i) : 0 < (W.out s i).length ∧ ∀ k (h : k < (W.out s i).length), Row (W.out s i).length 256 (W.out s i)[k].arcs := by
  have hol := out_length W s i
  have h0 := out_pos W s i
  unfold Walk.Done at hd
  have hl : (W.out s i).length = (W.met s i).length := by omega
  refine ⟨by omega, fun k hk => ?_⟩
  obtain ⟨a, arcs, h1, h2, h3⟩ := states_told W hr s i k hk
  obtain ⟨_, h4⟩ := List.getElem?_eq_some_iff.1 h2
  rw [h4, hl]
  exact h3.row
theorem start_first (W : Walk σ) (s : σ) (i : Nat) : (W.met s i)[0]? = some s := by
  obtain ⟨r, h⟩ := met_mono W s 0 i
  rw [Nat.zero_add] at h
  rw [h]
  simp [Walk.met, Walk.states]
/-- It takes the same. -/
theorem Fair.eqv {W : Walk σ} {A : Auto σ} (h : Fair W A) (s : σ) (i : Nat) (hd : W.Done s i) : Eqv (ofL (W.out s i)) A 0 s := fun w => h.takes s i hd w 0 s (start_first W s i)
theorem least_eqv {d : List St} (h0 : 0 < d.length) (hr : ∀ i (h : i < d.length), Row d.length 256 d[i].arcs) : Eqv (ofL (least d)) (ofL d) 0 0 :=
  (fair_walk _ (ofL_top hr)).eqv 0 d.length (least_done h0 hr)
theorem least_le (d : List St) : (least d).length ≤ d.length := by
  have := out_length (ofL d).walk 0 d.length
  unfold least
  omega
theorem least_fits {d : List St} (h : Fits d) : Fits (least d) := by
  obtain ⟨h1, h2⟩ := out_rows (ofL d).walk (fair_walk _ (ofL_top h.row)).refl 0 d.length (least_done h.pos h.row)
  exact ⟨h1, Nat.le_trans (least_le d) h.top, h2⟩
/-- What takes the same has the same least automaton. -/
theorem least_of_eqv {A : Auto σ} {s : σ} {d : List St} (h0 : 0 < d.length) (hr : ∀ i (h : i < d.length), Row d.length 256 d[i].arcs) (h : Eqv A (ofL d) s 0) {i : Nat} (hi : A.walk.Done s i) : A.walk.out s i = least d :=
  alike_out h hi (least_done h0 hr)
theorem least_congr {d e : List St} (h0 : 0 < d.length) (hr : ∀ i (h : i < d.length), Row d.length 256 d[i].arcs) (g0 : 0 < e.length) (gr : ∀ i (h : i < e.length), Row e.length 256 e[i].arcs) (h : Eqv (ofL d) (ofL e) 0 0) : least d = least e :=
  alike_out h (least_done h0 hr) (least_done g0 gr)
theorem least_least {d : List St} (h : Fits d) : least (least d) = least d :=
  least_congr (least_fits h).pos (least_fits h).row h.pos h.row (least_eqv h.pos h.row)

/-- A walk that takes each state as itself. -/
def Auto.plain [DecidableEq σ] (A : Auto σ) : Walk σ := ⟨A.step, fun a b => decide (a = b), A.fin⟩
theorem plain_fair [DecidableEq σ] (A : Auto σ) (top : ∀ s c, 256 ≤ c → A.step s c = none) : Fair A.plain A where
  fin := fun _ => rfl
  go := fun s c => by
    show (A.step s c = none ∧ _) ∨ ∃ t, A.step s c = some t ∧ _
    cases h : A.step s c with
    | none => exact .inl ⟨rfl, acc_none A⟩
    | some t => exact .inr ⟨t, rfl, rfl⟩
  refl := fun s => decide_eq_true rfl
  same := fun s t h => by
    have := of_decide_eq_true h
    rw [this]
    exact Eqv.refl A t
  top := fun s c h w => by rw [top s c h]; exact acc_none A w

/-- Both at once. -/
def pair (A : Auto σ) (B : Auto τ) : Auto (σ × τ) where
  step := fun p c => match A.step p.1 c, B.step p.2 c with
    | some s, some t => some (s, t)
    | _, _ => none
  fin := fun p => A.fin p.1 && B.fin p.2
theorem pair_acc (A : Auto σ) (B : Auto τ) (s : σ) (t : τ) (w : List Nat) : (pair A B).acc (some (s, t)) w = (A.acc (some s) w && B.acc (some t) w) := by
  induction w generalizing s t with
  | nil => rfl
  | cons c w ih =>
    rw [acc_cons, acc_cons, acc_cons]
    simp only [pair]
    cases h1 : A.step s c with
    | none =>
      simp only [acc_none, Bool.false_and]
    | some s' =>
      cases h2 : B.step t c with
      | none => simp only [acc_none, Bool.and_false]
      | some t' => exact ih s' t'
theorem pair_top {a b : List St} (ha : ∀ i (h : i < a.length), Row a.length 256 a[i].arcs) (s : Nat × Nat) (c : Nat) (hc : 256 ≤ c) : (pair (ofL a) (ofL b)).step s c = none := by
  simp only [pair]
  rw [ofL_top ha _ _ hc]
theorem pair_few {a b : List St} (ha : ∀ i (h : i < a.length), Row a.length 256 a[i].arcs) (hb : ∀ i (h : i < b.length), Row b.length 256 b[i].arcs) (h0 : 0 < a.length) (g0 : 0 < b.length) (i : Nat) : ((pair (ofL a) (ofL b)).plain.met (0, 0) i).length ≤ a.length * b.length := by
  refine met_few _ (plain_fair _ (pair_top ha)).refl (fun p => p.1 * b.length + p.2) (a.length * b.length) (fun p => p.1 < a.length ∧ p.2 < b.length) ?_ (0, 0) ⟨h0, g0⟩ ?_ ?_ i
  · rintro ⟨s, t⟩ c ⟨s', t'⟩ _ h
    have h : (pair (ofL a) (ofL b)).step (s, t) c = some (s', t') := h
    simp only [pair] at h
    split at h
    · rename_i x y e1 e2
      cases h
      exact ⟨ofL_in ha e1, ofL_in hb e2⟩
    · cases h
  · rintro ⟨s, t⟩ ⟨h1, h2⟩
    dsimp only at *
    calc s * b.length + t < s * b.length + b.length := by omega
      _ = (s + 1) * b.length := by rw [Nat.add_mul, Nat.one_mul]
      _ ≤ _ := Nat.mul_le_mul_right _ (by omega)
  · rintro ⟨s, t⟩ ⟨s', t'⟩ ⟨h1, h2⟩ ⟨h3, h4⟩ e
    dsimp only at *
    have e1 : s = s' := by
      have h5 : (s * b.length + t) / b.length = (s' * b.length + t') / b.length := by rw [e]
      rw [Nat.mul_comm s, Nat.mul_comm s', Nat.mul_add_div g0, Nat.mul_add_div g0, Nat.div_eq_of_lt h2, Nat.div_eq_of_lt h4] at h5
      omega
    subst e1
    have : t = t' := by omega
    rw [this]

/-- The pairs that are met of two. -/
def pairs (a b : List St) : Nat := ((pair (ofL a) (ofL b)).plain.met (0, 0) (a.length * b.length)).length
/-- They, as an automaton. -/
def meets (a b : List St) : List St := (pair (ofL a) (ofL b)).plain.out (0, 0) (a.length * b.length)
theorem pairs_done {a b : List St} (ha : ∀ i (h : i < a.length), Row a.length 256 a[i].arcs) (hb : ∀ i (h : i < b.length), Row b.length 256 b[i].arcs) (h0 : 0 < a.length) (g0 : 0 < b.length) : (pair (ofL a) (ofL b)).plain.Done (0, 0) (a.length * b.length) := pair_few ha hb h0 g0 _
theorem meets_rows {a b : List St} (h : Fits a) (g : Fits b) : 0 < (meets a b).length ∧ ∀ k (h : k < (meets a b).length), Row (meets a b).length 256 (meets a b)[k].arcs :=
  out_rows _ (plain_fair _ (pair_top h.row)).refl _ _ (pairs_done h.row g.row h.pos g.pos)
theorem meets_eqv {a b : List St} (h : Fits a) (g : Fits b) : Eqv (ofL (meets a b)) (pair (ofL a) (ofL b)) 0 (0, 0) :=
  (plain_fair _ (pair_top h.row)).eqv _ _ (pairs_done h.row g.row h.pos g.pos)
theorem meets_len (a b : List St) : (meets a b).length ≤ pairs a b := by
  have := out_length (pair (ofL a) (ofL b)).plain (0, 0) (a.length * b.length)
  unfold meets pairs
  omega
/-- What both take. -/
theorem both_takes {a b : List St} (h : Fits a) (g : Fits b) (w : List Nat) : (ofL (least (meets a b))).acc (some 0) w = ((ofL a).acc (some 0) w && (ofL b).acc (some 0) w) := by
  obtain ⟨h1, h2⟩ := meets_rows h g
  rw [least_eqv h1 h2 w, meets_eqv h g w, pair_acc]
/-- Both of one and itself: its least. -/
theorem both_self {a : List St} (h : Fits a) : least (meets a a) = least a := by
  obtain ⟨h1, h2⟩ := meets_rows h h
  exact least_congr h1 h2 h.pos h.row fun w => by
    rw [meets_eqv h h w, pair_acc, Bool.and_self]

end Au
end Go.Proofs.Ytdcofdndkpmpaaa

/-
  Loose automata: what they lead to by nothing, the sets of states that are met, what is taken.
-/
namespace Go.Proofs.Ytdcofdndkpmpaaa
namespace Au

/-- A loose state. -/
structure Lo where
  fin : Bool
  arcs : List Arc
  free : List Int
  deriving DecidableEq

/-- A list of loose states that may be. -/
structure May (n : List Lo) : Prop where
  pos : 0 < n.length
  arc : ∀ i (h : i < n.length), ∀ a ∈ n[i].arcs, 0 ≤ a.lo ∧ a.lo ≤ a.hi ∧ a.hi ≤ 255 ∧ 0 ≤ a.to ∧ a.to < n.length
  free : ∀ i (h : i < n.length), ∀ f ∈ n[i].free, 0 ≤ f ∧ f < n.length

/-- Is a state in a set? -/
def has (S : List Bool) (i : Nat) : Prop := S[i]? = some true
/-- What a state leads to by nothing, on and on. -/
inductive Star (n : List Lo) (i : Nat) : Nat → Prop
  | refl : Star n i i
  | step {j : Nat} {s : Lo} {f : Int} : Star n i j → n[j]? = some s → f ∈ s.free → Star n i f.toNat
theorem Star.trans {n : List Lo} {i j k : Nat} (h : Star n i j) (g : Star n j k) : Star n i k := by
  induction g with
  | refl => exact h
  | step _ h1 h2 ih => exact .step ih h1 h2

open Classical in
/-- The set of what is so. -/
noncomputable def setOf (m : Nat) (P : Nat → Prop) : List Bool := (List.range m).map (fun i => decide (P i))
theorem setOf_length (m : Nat) (P : Nat → Prop) : (setOf m P).length = m := by simp [setOf]
theorem has_setOf (m : Nat) (P : Nat → Prop) (i : Nat) : has (setOf m P) i ↔ i < m ∧ P i := by
  unfold has setOf
  rw [List.getElem?_map]
  by_cases h : i < m
  · rw [List.getElem?_range h]
    simp [h]
  · rw [List.getElem?_eq_none (by simp; omega)]
    simp [h]
/-- Two sets of one length that have the same are one. -/
theorem set_ext {S T : List Bool} (hl : S.length = T.length) (h : ∀ i, has S i ↔ has T i) : S = T := by
  apply List.ext_getElem? 
  intro i
  have hi := h i
  unfold has at hi
  cases hs : S[i]? with
  | none =>
    have : T.length ≤ i := by rw [← hl]; exact List.getElem?_eq_none_iff.1 hs
    exact (List.getElem?_eq_none this).symm
  | some a =>
    have h1 : i < T.length := by rw [← hl]; exact (List.getElem?_eq_some_iff.1 hs).1
    rw [List.getElem?_eq_getElem h1]
    rw [hs, List.getElem?_eq_getElem h1] at hi
    congr 1
    cases a <;> cases hb : T[i] <;> simp_all

/-- A set, and what it leads to by nothing. -/
noncomputable def spread (n : List Lo) (S : List Bool) : List Bool := setOf n.length (fun i => ∃ j, has S j ∧ Star n j i)
/-- What one byte leads a set to. -/
def leads (n : List Lo) (S : List Bool) (c : Nat) (j : Nat) : Prop := ∃ k s a, has S k ∧ n[k]? = some s ∧ a ∈ s.arcs ∧ a.lo ≤ (c : Int) ∧ (c : Int) ≤ a.hi ∧ a.to.toNat = j
noncomputable def over (n : List Lo) (S : List Bool) (c : Nat) : List Bool := spread n (setOf n.length (leads n S c))
/-- The start's set. -/
noncomputable def first (n : List Lo) : List Bool := spread n (setOf n.length (fun i => i = 0))
open Classical in
/-- Is one of a set final? -/
noncomputable def ends (n : List Lo) (S : List Bool) : Bool := decide (∃ i s, has S i ∧ n[i]? = some s ∧ s.fin = true)
open Classical in
/-- Is a set empty? -/
noncomputable def empty (S : List Bool) : Bool := decide (∀ i, ¬ has S i)
theorem empty_iff (S : List Bool) : empty S = true ↔ ∀ i, ¬ has S i := by simp [empty]
theorem ends_iff (n : List Lo) (S : List Bool) : ends n S = true ↔ ∃ i s, has S i ∧ n[i]? = some s ∧ s.fin = true := by simp [ends]

theorem spread_length (n : List Lo) (S : List Bool) : (spread n S).length = n.length := setOf_length _ _
theorem over_length (n : List Lo) (S : List Bool) (c : Nat) : (over n S c).length = n.length := setOf_length _ _
theorem first_length (n : List Lo) : (first n).length = n.length := setOf_length _ _
theorem spread_empty (n : List Lo) (S : List Bool) (h : ∀ i, ¬ has S i) : ∀ i, ¬ has (spread n S) i := by
  intro i hi
  obtain ⟨_, j, hj, _⟩ := (has_setOf _ _ _).1 hi
  exact h j hj
theorem over_empty (n : List Lo) (S : List Bool) (c : Nat) (h : ∀ i, ¬ has S i) : ∀ i, ¬ has (over n S c) i := by
  apply spread_empty
  intro i hi
  obtain ⟨_, k, s, a, hk, _⟩ := (has_setOf _ _ _).1 hi
  exact h k hk

/-- The automaton of the sets that are not empty. -/
noncomputable def sub (n : List Lo) : Auto (List Bool) where
  step := fun S c => if empty (over n S c) = true then none else some (over n S c)
  fin := ends n
/-- What a loose automaton takes. -/
noncomputable def takes (n : List Lo) (S : List Bool) (w : List Nat) : Bool := ends n (w.foldl (over n) S)
theorem takes_empty (n : List Lo) (S : List Bool) (h : ∀ i, ¬ has S i) (w : List Nat) : takes n S w = false := by
  induction w generalizing S with
  | nil =>
    unfold takes
    rw [← Bool.not_eq_true, List.foldl_nil, ends_iff]
    rintro ⟨i, s, hi, _⟩
    exact h i hi
  | cons c w ih => exact ih (over n S c) (over_empty n S c h)
theorem sub_takes (n : List Lo) (S : List Bool) (w : List Nat) : (sub n).acc (some S) w = takes n S w := by
  induction w generalizing S with
  | nil => rfl
  | cons c w ih =>
    rw [acc_cons]
    change (sub n).acc (if empty (over n S c) = true then none else some (over n S c)) w = takes n (over n S c) w
    by_cases h : empty (over n S c) = true
    · rw [if_pos h, acc_none, takes_empty n _ ((empty_iff _).1 h)]
    · rw [if_neg h]
      exact ih _
theorem sub_top {n : List Lo} (hn : May n) (S : List Bool) (c : Nat) (hc : 256 ≤ c) : (sub n).step S c = none := by
  change (if empty (over n S c) = true then none else some (over n S c)) = none
  rw [if_pos]
  rw [empty_iff]
  apply spread_empty
  intro i hi
  obtain ⟨_, k, s, a, hk, hs, ha, _, h2, _⟩ := (has_setOf _ _ _).1 hi
  obtain ⟨hl, rfl⟩ := List.getElem?_eq_some_iff.1 hs
  have := hn.arc k hl a ha
  omega

/-- No more sets than so many are met. -/
def Few (n : List Lo) (most : Int) (i : Nat) : Prop := (sub n).plain.Done (first n) i ∧ ((sub n).plain.met (first n) i).length ≤ most
open Classical in
/-- The least automaton of a loose one, if no more sets are met. -/
noncomputable def tight (n : List Lo) (most : Int) : Option (List St) := if h : ∃ i, Few n most i then some (least ((sub n).plain.out (first n) (Classical.choose h))) else none
theorem tight_some {n : List Lo} {most : Int} {i : Nat} (h : Few n most i) : tight n most = some (least ((sub n).plain.out (first n) i)) := by
  unfold tight
  have hx : ∃ i, Few n most i := ⟨i, h⟩
  rw [dif_pos hx]
  have := done_same (sub n).plain (first n) _ i (Classical.choose_spec hx).1 h.1
  unfold Walk.out
  rw [this]
theorem met_le {σ : Type} (W : Walk σ) (s : σ) (i j : Nat) (hj : W.Done s j) : (W.met s i).length ≤ (W.met s j).length := by
  rcases Nat.le_total i j with h | h
  · obtain ⟨d, rfl⟩ : ∃ d, j = i + d := ⟨j - i, by omega⟩
    obtain ⟨r, hr⟩ := met_mono W s i d
    rw [hr, List.length_append]
    omega
  · obtain ⟨d, rfl⟩ : ∃ d, i = j + d := ⟨i - j, by omega⟩
    unfold Walk.met
    rw [done_stays W s j d hj]
    exact Nat.le_refl _
theorem tight_none {n : List Lo} {most : Int} (i : Nat) (h : most < ((sub n).plain.met (first n) i).length) : tight n most = none := by
  unfold tight
  rw [dif_neg]
  rintro ⟨j, hj1, hj2⟩
  have := met_le (sub n).plain (first n) i j hj1
  omega
theorem bytes_le {σ : Type} (W : Walk σ) (s : σ) (m : List σ) (c d : Nat) : (W.bytes s m c).1.length ≤ (W.bytes s m (c + d)).1.length := by
  induction d with
  | zero => exact Nat.le_refl _
  | succ d ih =>
    obtain ⟨r, h⟩ := byte_grows W s (c + d) (W.bytes s m (c + d))
    rw [← Nat.add_assoc, Walk.bytes, h, List.length_append]
    omega
/-- Too many within a row. -/
theorem tight_row {n : List Lo} {most : Int} (i c : Nat) (hc : c ≤ 256) (a : List Bool) (ha : ((sub n).plain.met (first n) i)[i]? = some a) (h : most < ((sub n).plain.bytes a ((sub n).plain.met (first n) i) c).1.length) : tight n most = none := by
  apply tight_none (i + 1)
  have e : (sub n).plain.met (first n) (i + 1) = ((sub n).plain.bytes a ((sub n).plain.met (first n) i) 256).1 := by
    unfold Walk.met at *
    simp only [Walk.states]
    rw [ha]
  rw [e]
  obtain ⟨d, hd⟩ : ∃ d, 256 = c + d := ⟨256 - c, by omega⟩
  have := bytes_le (sub n).plain a ((sub n).plain.met (first n) i) c d
  rw [← hd] at this
  omega
/-- The tight automaton's rows, and what it takes. -/
theorem few_rows {n : List Lo} (hn : May n) {most : Int} {i : Nat} (h : Few n most i) : 0 < ((sub n).plain.out (first n) i).length ∧ ∀ k (h : k < ((sub n).plain.out (first n) i).length), Row ((sub n).plain.out (first n) i).length 256 ((sub n).plain.out (first n) i)[k].arcs :=
  out_rows _ (plain_fair _ (sub_top hn)).refl _ _ h.1
theorem few_eqv {n : List Lo} (hn : May n) {most : Int} {i : Nat} (h : Few n most i) : Eqv (ofL ((sub n).plain.out (first n) i)) (sub n) 0 (first n) := (plain_fair _ (sub_top hn)).eqv _ _ h.1
theorem few_len {n : List Lo} {most : Int} {i : Nat} (h : Few n most i) : (((sub n).plain.out (first n) i).length : Int) ≤ most := by
  have := out_length (sub n).plain (first n) i
  have := h.2
  omega
theorem tight_takes {n : List Lo} (hn : May n) {most : Int} {d : List St} (h : tight n most = some d) (w : List Nat) : (ofL d).acc (some 0) w = takes n (first n) w := by
  have hx : ∃ i, Few n most i := by
    unfold tight at h
    split at h
    · assumption
    · cases h
  obtain ⟨i, hi⟩ := hx
  rw [tight_some hi] at h
  cases h
  obtain ⟨h1, h2⟩ := few_rows hn hi
  rw [least_eqv h1 h2 w, few_eqv hn hi w, sub_takes]
theorem tight_fits {n : List Lo} (hn : May n) {most : Int} (hm : most ≤ 20000) {d : List St} (h : tight n most = some d) : Fits d := by
  have hx : ∃ i, Few n most i := by
    unfold tight at h
    split at h
    · assumption
    · cases h
  obtain ⟨i, hi⟩ := hx
  rw [tight_some hi] at h
  cases h
  obtain ⟨h1, h2⟩ := few_rows hn hi
  have h3 := few_len hi
  exact least_fits ⟨h1, by omega, h2⟩
/-- What takes the same as a loose one has the tight one's least. -/
theorem tight_is {n : List Lo} (hn : May n) {most : Int} {i : Nat} (hi : Few n most i) {d : List St} (h0 : 0 < d.length) (hr : ∀ i (h : i < d.length), Row d.length 256 d[i].arcs) (h : Eqv (ofL d) (sub n) 0 (first n)) : tight n most = some (least d) := by
  obtain ⟨h1, h2⟩ := few_rows hn hi
  rw [tight_some hi]
  exact congrArg some (least_congr h1 h2 h0 hr ((few_eqv hn hi).trans h.symm))

end Au
end Go.Proofs.Ytdcofdndkpmpaaa

/-
  Automata in memory: slices of arcs, of states, of loose states, wherever they lie.
-/
namespace Go.Proofs.Ytdcofdndkpmpaaa
open Go.RowKit

theorem belowN {B : Nat} {a w : World} (h : Below B a w) (n : Nat) : Below B a (w.drewN n) := h.trans ⟨rfl, rfl, rfl, Nat.le_refl _, fun _ _ => rfl⟩
theorem chain {w w2 w3 : World} (h : Below w.heap.size w w2) (hb : Below w2.heap.size w2 w3) : Below w.heap.size w w3 := h.trans (hb.mono h.size)
theorem cell_same {w w' : World} {a : Addr} (h : w'.heap[a.block]? = w.heap[a.block]?) : w'.cell? a = w.cell? a := World.cell?_of_block (w := w) h

/-- The value v is a slice of these arcs, in a block of F. -/
def ArcS (F : Nat → Prop) (w : World) (v : Value) (l : List Au.Arc) : Prop :=
  ∃ a cap, v = .slice a l.length cap ∧ l.length ≤ cap ∧ cap ≤ 9223372036854775807 ∧ (0 < l.length → ∃ g o, a = some ⟨g, o, none⟩ ∧ g < w.heap.size ∧ F g ∧
    ∀ j (_ : j < l.length), w.cell? ⟨g, o + j * 3, none⟩ = some (.int .i64 l[j].lo) ∧ w.cell? ⟨g, o + j * 3 + 1, none⟩ = some (.int .i64 l[j].hi) ∧ w.cell? ⟨g, o + j * 3 + 2, none⟩ = some (.int .i64 l[j].to))
theorem ArcS.keep {F : Nat → Prop} {w w' : World} {v : Value} {l : List Au.Arc} (h : ArcS F w v l) (hs : w.heap.size ≤ w'.heap.size) (e : ∀ g, F g → g < w.heap.size → w'.heap[g]? = w.heap[g]?) : ArcS F w' v l := by
  obtain ⟨a, cap, h1, h2, h3, h4⟩ := h
  refine ⟨a, cap, h1, h2, h3, fun h0 => ?_⟩
  obtain ⟨g, o, h5, h6, h7, h8⟩ := h4 h0
  have hb := e g h7 h6
  refine ⟨g, o, h5, Nat.lt_of_lt_of_le h6 hs, h7, fun j hj => ?_⟩
  obtain ⟨a1, a2, a3⟩ := h8 j hj
  exact ⟨(cell_same hb).trans a1, (cell_same hb).trans a2, (cell_same hb).trans a3⟩
theorem ArcS.wide {F G : Nat → Prop} {w : World} {v : Value} {l : List Au.Arc} (h : ArcS F w v l) (hm : ∀ g, g < w.heap.size → F g → G g) : ArcS G w v l := by
  obtain ⟨a, cap, h1, h2, h3, h4⟩ := h
  refine ⟨a, cap, h1, h2, h3, fun h0 => ?_⟩
  obtain ⟨g, o, h5, h6, h7, h8⟩ := h4 h0
  exact ⟨g, o, h5, h6, hm g h6 h7, h8⟩
/-- The value v is a slice of these numbers, in a block of F. -/
def NumS (F : Nat → Prop) (w : World) (v : Value) (l : List Int) : Prop :=
  ∃ a cap, v = .slice a l.length cap ∧ l.length ≤ cap ∧ cap ≤ 9223372036854775807 ∧ (0 < l.length → ∃ g o, a = some ⟨g, o, none⟩ ∧ g < w.heap.size ∧ F g ∧ ∀ j (_ : j < l.length), w.cell? ⟨g, o + j, none⟩ = some (.int .i64 l[j]))
theorem NumS.keep {F : Nat → Prop} {w w' : World} {v : Value} {l : List Int} (h : NumS F w v l) (hs : w.heap.size ≤ w'.heap.size) (e : ∀ g, F g → g < w.heap.size → w'.heap[g]? = w.heap[g]?) : NumS F w' v l := by
  obtain ⟨a, cap, h1, h2, h3, h4⟩ := h
  refine ⟨a, cap, h1, h2, h3, fun h0 => ?_⟩
  obtain ⟨g, o, h5, h6, h7, h8⟩ := h4 h0
  have hb := e g h7 h6
  exact ⟨g, o, h5, Nat.lt_of_lt_of_le h6 hs, h7, fun j hj => (cell_same hb).trans (h8 j hj)⟩
/-- The value v is a slice of these states, all of it in blocks of F. -/
def StS (F : Nat → Prop) (w : World) (v : Value) (d : List Au.St) : Prop :=
  ∃ a cap, v = .slice a d.length cap ∧ d.length ≤ cap ∧ cap ≤ 9223372036854775807 ∧ (0 < d.length → ∃ g o, a = some ⟨g, o, none⟩ ∧ g < w.heap.size ∧ F g ∧
    ∀ j (_ : j < d.length), w.cell? ⟨g, o + j * 2, none⟩ = some (.bool d[j].fin) ∧ ∃ va, w.cell? ⟨g, o + j * 2 + 1, none⟩ = some va ∧ ArcS F w va d[j].arcs)
theorem StS.keep {F : Nat → Prop} {w w' : World} {v : Value} {d : List Au.St} (h : StS F w v d) (hs : w.heap.size ≤ w'.heap.size) (e : ∀ g, F g → g < w.heap.size → w'.heap[g]? = w.heap[g]?) : StS F w' v d := by
  obtain ⟨a, cap, h1, h2, h3, h4⟩ := h
  refine ⟨a, cap, h1, h2, h3, fun h0 => ?_⟩
  obtain ⟨g, o, h5, h6, h7, h8⟩ := h4 h0
  have hb := e g h7 h6
  refine ⟨g, o, h5, Nat.lt_of_lt_of_le h6 hs, h7, fun j hj => ?_⟩
  obtain ⟨a1, va, a2, a3⟩ := h8 j hj
  exact ⟨(cell_same hb).trans a1, va, (cell_same hb).trans a2, a3.keep hs e⟩
theorem StS.wide {F G : Nat → Prop} {w : World} {v : Value} {d : List Au.St} (h : StS F w v d) (hm : ∀ g, g < w.heap.size → F g → G g) : StS G w v d := by
  obtain ⟨a, cap, h1, h2, h3, h4⟩ := h
  refine ⟨a, cap, h1, h2, h3, fun h0 => ?_⟩
  obtain ⟨g, o, h5, h6, h7, h8⟩ := h4 h0
  refine ⟨g, o, h5, h6, hm g h6 h7, fun j hj => ?_⟩
  obtain ⟨a1, va, a2, a3⟩ := h8 j hj
  exact ⟨a1, va, a2, a3.wide hm⟩
/-- The value v is a slice of these loose states. -/
def LoS (F : Nat → Prop) (w : World) (v : Value) (n : List Au.Lo) : Prop :=
  ∃ a cap, v = .slice a n.length cap ∧ n.length ≤ cap ∧ cap ≤ 9223372036854775807 ∧ (0 < n.length → ∃ g o, a = some ⟨g, o, none⟩ ∧ g < w.heap.size ∧ F g ∧
    ∀ j (_ : j < n.length), w.cell? ⟨g, o + j * 3, none⟩ = some (.bool n[j].fin) ∧ (∃ va, w.cell? ⟨g, o + j * 3 + 1, none⟩ = some va ∧ ArcS F w va n[j].arcs) ∧ ∃ vf, w.cell? ⟨g, o + j * 3 + 2, none⟩ = some vf ∧ NumS F w vf n[j].free)
theorem LoS.keep {F : Nat → Prop} {w w' : World} {v : Value} {d : List Au.Lo} (h : LoS F w v d) (hs : w.heap.size ≤ w'.heap.size) (e : ∀ g, F g → g < w.heap.size → w'.heap[g]? = w.heap[g]?) : LoS F w' v d := by
  obtain ⟨a, cap, h1, h2, h3, h4⟩ := h
  refine ⟨a, cap, h1, h2, h3, fun h0 => ?_⟩
  obtain ⟨g, o, h5, h6, h7, h8⟩ := h4 h0
  have hb := e g h7 h6
  refine ⟨g, o, h5, Nat.lt_of_lt_of_le h6 hs, h7, fun j hj => ?_⟩
  obtain ⟨a1, ⟨va, a2, a3⟩, vf, a4, a5⟩ := h8 j hj
  exact ⟨(cell_same hb).trans a1, ⟨va, (cell_same hb).trans a2, a3.keep hs e⟩, vf, (cell_same hb).trans a4, a5.keep hs e⟩
theorem StS.below {F : Nat → Prop} {w w' : World} {v : Value} {d : List Au.St} (h : StS F w v d) (hb : Below w.heap.size w w') : StS F w' v d := h.keep hb.size fun g _ hg => hb.block g hg
theorem LoS.below {F : Nat → Prop} {w w' : World} {v : Value} {d : List Au.Lo} (h : LoS F w v d) (hb : Below w.heap.size w w') : LoS F w' v d := h.keep hb.size fun g _ hg => hb.block g hg
theorem ArcS.below {F : Nat → Prop} {w w' : World} {v : Value} {l : List Au.Arc} (h : ArcS F w v l) (hb : Below w.heap.size w w') : ArcS F w' v l := h.keep hb.size fun g _ hg => hb.block g hg
theorem NumS.below {F : Nat → Prop} {w w' : World} {v : Value} {l : List Int} (h : NumS F w v l) (hb : Below w.heap.size w w') : NumS F w' v l := h.keep hb.size fun g _ hg => hb.block g hg

namespace Au
/-- Where a byte leads, as 8.1 tells it: -1 to none. -/
def step (d : List St) (s c : Int) : Int := if s < 0 ∨ (d.length : Int) ≤ s then -1 else match d[s.toNat]? with
  | some a => (look a.arcs c).getD (-1)
  | none => -1
end Au
end Go.Proofs.Ytdcofdndkpmpaaa

/-
  Slices of bools in memory, wherever they lie or the call's own; append onto them.
-/
namespace Go.Proofs.Ytdcofdndkpmpaaa
open Go.RowKit

theorem Try.infoBo : (Try.prog.info? 4).map (fun i => (i.zero, i.size, i.bytes)) = some (some (.bool false), 1, 1) := by kernel_rfl

/-- Numbers as cells. -/
def boolsV (l : List Bool) : List Value := l.map (fun c => .bool c)

theorem boolsV_snoc (l : List Bool) (c : Bool) : boolsV l ++ [.bool c] = boolsV (l ++ [c]) := by simp [boolsV]

theorem boolsV_append (l r : List Bool) : boolsV l ++ boolsV r = boolsV (l ++ r) := by simp [boolsV]

theorem boolsV_length (l : List Bool) : (boolsV l).length = l.length := by simp [boolsV]

/-- The slice v is the call's own, from block B on, and holds these numbers. -/
def OwnBo (w : World) (B : Nat) (v : Value) (l : List Bool) : Prop := w.ownsRow B 4 1 v l.length (boolsV l)

/-- Behind an append of one number. -/
theorem ownBo_push {w wr w1 : World} {B : Nat} {v v' : Value} {l : List Bool} {c : Bool} {o : Obj} (hB : B ≤ wr.heap.size) (h : OwnBo wr B v l) (hb : Below B w wr)
    (h1 : w1.ownsRow B 4 1 v' (l.length + 1) (boolsV l ++ [.bool c])) (hg : (wr.alloc o).grownBy w1 v.ownBlock) :
    OwnBo w1 B v' (l ++ [c]) ∧ Below B w w1 := by
  have hown : wr.ownsRow B 4 1 v l.length (boolsV l) := h
  refine ⟨?_, (hb.alloc hB o).grown hg (by simp; omega) (fun j hj => (hown.lt j hj).1)⟩
  unfold OwnBo
  rw [boolsV_snoc] at h1
  simpa using h1

/-- An own slice, its cells told one by one. -/
theorem ownBo_cells {w : World} {B : Nat} {v : Value} {l : List Bool} (h : OwnBo w B v l) : ∃ a cap, v = .slice a l.length cap ∧ (0 < l.length → ∃ g, a = some ⟨g, 0, none⟩ ∧ g < w.heap.size ∧ ∀ j (hj : j < l.length), w.cell? ⟨g, j, none⟩ = some (.bool l[j])) := by
  have hown : w.ownsRow B 4 1 v l.length (boolsV l) := h
  rcases h.2 with ⟨rfl, h0⟩ | ⟨g, cap, cur, rfl, hg, hh, hnc, hcp, hcs, htake⟩
  · exact ⟨none, 0, by rw [h0], fun h => by omega⟩
  · refine ⟨_, _, rfl, fun h => ⟨g, rfl, (hown.lt g rfl).2, fun j hj => ?_⟩⟩
    rw [hown.cellAt j (by omega)]
    simp [boolsV, hj]

/-- The value v is a slice of these numbers. -/
def BitS (w : World) (v : Value) (xs : List Bool) : Prop :=
  ∃ a cap, v = .slice a xs.length cap ∧ xs.length ≤ cap ∧ cap ≤ 9223372036854775807 ∧ (0 < xs.length → ∃ g o, a = some ⟨g, o, none⟩ ∧ g < w.heap.size ∧ ∀ j (_ : j < xs.length), w.cell? ⟨g, o + j, none⟩ = some (.bool xs[j]))

theorem BitS.below {w w' : World} {B : Nat} {v : Value} {xs : List Bool} (h : BitS w v xs) (hb : Below B w w') (hB : w.heap.size ≤ B) : BitS w' v xs := by
  obtain ⟨a, cap, h1, h2, h3, h4⟩ := h
  refine ⟨a, cap, h1, h2, h3, fun h0 => ?_⟩
  obtain ⟨g, o, h5, h6, h7⟩ := h4 h0
  exact ⟨g, o, h5, Nat.lt_of_lt_of_le h6 hb.size, fun j hj => (hb.cell (p := ⟨g, o + j, none⟩) (Nat.lt_of_lt_of_le h6 hB)).trans (h7 j hj)⟩

theorem OwnBo.ints {w : World} {B : Nat} {v : Value} {l : List Bool} (h : OwnBo w B v l) (_ : l.length ≤ 140737488355328) : BitS w v l := by
  rcases h.2 with ⟨rfl, h0⟩ | ⟨g, cap, cur, rfl, hg, hh, hnc, hcp, hcs, htake⟩
  · exact ⟨none, 0, by rw [h0], by omega, by omega, fun h => by omega⟩
  · have hown : w.ownsRow B 4 1 (.slice (some ⟨g, 0, none⟩) l.length cap) l.length (boolsV l) := h
    refine ⟨_, cap, rfl, hnc, by unfold maxLen at hcp; omega, fun h => ⟨g, 0, rfl, (hown.lt g rfl).2, fun j hj => ?_⟩⟩
    rw [Nat.zero_add, hown.cellAt j (by omega)]
    simp [boolsV, hj]

/-- Behind an append of numbers that lie elsewhere. -/
theorem ownBo_pushAll {w wr w1 : World} {B : Nat} {v v' : Value} {l r : List Bool} (hB : B ≤ wr.heap.size) (h : OwnBo wr B v l) (hb : Below B w wr)
    (h1 : w1.ownsRow B 4 1 v' (l.length + r.length) (boolsV l ++ boolsV r)) (hg : wr.grownBy w1 v.ownBlock) :
    OwnBo w1 B v' (l ++ r) ∧ Below B w w1 := by
  have hown : wr.ownsRow B 4 1 v l.length (boolsV l) := h
  refine ⟨?_, hb.grown hg hB (fun j hj => (hown.lt j hj).1)⟩
  unfold OwnBo
  rw [boolsV_append] at h1
  simpa using h1

/-- 'append(v, c)' of one number, which lies in a new block. -/
theorem wpList_pushBo {ops : Array Oper} {rest : List Oper} {o : Oper} {a : Act} {Q : Exit → Act → World → Prop} {w : World} (hgd : o.guard = none) (s x : Operand)
    (ho : o.op = .call { callee := .builtin .append, args := #[s, x], argTypes := #[62, 62] })
    (B : Nat) (hB : B ≤ w.heap.size) (v : Value) (l : List Bool) (c : Bool) (hs : a.eval s = v) (h : OwnBo w B v l) (hx : a.eval x = .slice (some ⟨w.heap.size, 0, none⟩) 1 1)
    (hb : l.length + 1 ≤ 17592186044416)
    (hk : ∀ v' w', OwnBo w' B v' (l ++ [c]) → Below B w w' → (w.alloc (.cells #[.bool c] 4)).grownBy w' v.ownBlock → wpList Try.prog ops Q rest (a.put o.dst v') w') :
    wpList Try.prog ops Q (o :: rest) a (w.alloc (.cells #[.bool c] 4)) := by
  obtain ⟨ii, hi, hz0, hz1, hz2⟩ := info_parts Try.infoBo
  have hown : w.ownsRow B 4 1 v l.length (boolsV l) := h
  refine wpList_append_own _ hgd s x 62 ho B 4 ii (.bool false) 1 1 Try.underlying62 hi hz0 hz1 hz2 rfl (by decide) _ _ _ hs (hown.alloc _) ⟨w.heap.size, 0, none⟩ 1 1 [.bool c] hx rfl ?_ ?_ (by unfold maxLen; omega) (by omega) (by simp; omega) ?_
  · intro j u hj
    match j, hj with
    | 0, hj => simp at hj; subst hj; simp [Addr.add]
  · intro u hu
    simp at hu
    subst hu
    rfl
  · intro v' w' h1 h2 _
    obtain ⟨h3, h4⟩ := ownBo_push hB h (Below.refl B w) h1 h2
    exact hk v' w' h3 h4 h2

/-- 'append(v, r...)' of numbers that lie elsewhere. -/
theorem wpList_appBo {ops : Array Oper} {rest : List Oper} {o : Oper} {a : Act} {Q : Exit → Act → World → Prop} {w : World} (hgd : o.guard = none) (s x : Operand)
    (ho : o.op = .call { callee := .builtin .append, args := #[s, x], argTypes := #[62, 62] })
    (B : Nat) (hB : B ≤ w.heap.size) (v : Value) (l r : List Bool) (hs : a.eval s = v) (h : OwnBo w B v l) (ad : Addr) (c : Nat) (hx : a.eval x = .slice (some ad) r.length c)
    (hr : BitS w (.slice (some ad) r.length c) r) (hb : l.length + r.length ≤ 17592186044416)
    (hk : ∀ v' w', OwnBo w' B v' (l ++ r) → Below B w w' → wpList Try.prog ops Q rest (a.put o.dst v') w') :
    wpList Try.prog ops Q (o :: rest) a w := by
  obtain ⟨ii, hi, hz0, hz1, hz2⟩ := info_parts Try.infoBo
  have hown : w.ownsRow B 4 1 v l.length (boolsV l) := h
  refine wpList_append_own _ hgd s x 62 ho B 4 ii (.bool false) 1 1 Try.underlying62 hi hz0 hz1 hz2 rfl (by decide) _ _ _ hs hown ad r.length c (boolsV r) hx (by rw [boolsV_length, Nat.mul_one]) ?_ ?_ (by unfold maxLen; omega) (by omega) hB ?_
  · intro j u hj
    have hjr : j < r.length := by
      have := (List.getElem?_eq_some_iff.1 hj).1
      simpa [boolsV] using this
    obtain ⟨a', cap', hv, _, _, hc⟩ := hr
    obtain ⟨g, o', ha, _, hcl⟩ := hc (by omega)
    simp only [Value.slice.injEq] at hv
    obtain ⟨hv1, _, _⟩ := hv
    rw [← hv1] at ha
    obtain rfl := Option.some.inj ha
    rw [Addr.add_lit, hcl j hjr]
    simp [boolsV, hjr] at hj
    rw [← hj]
  · intro u hu
    obtain ⟨x, _, rfl⟩ := List.mem_map.1 hu
    rfl
  · intro v' w' h1 h2 _
    obtain ⟨h3, h4⟩ := ownBo_pushAll hB h (Below.refl B w) h1 h2
    exact hk v' w' h3 h4

/-- The value v is a slice of these bools, in a block of F. -/
def SetS (F : Nat → Prop) (w : World) (v : Value) (l : List Bool) : Prop :=
  ∃ a cap, v = .slice a l.length cap ∧ l.length ≤ cap ∧ cap ≤ 9223372036854775807 ∧ (0 < l.length → ∃ g o, a = some ⟨g, o, none⟩ ∧ g < w.heap.size ∧ F g ∧ ∀ j (_ : j < l.length), w.cell? ⟨g, o + j, none⟩ = some (.bool l[j]))
theorem SetS.keep {F : Nat → Prop} {w w' : World} {v : Value} {l : List Bool} (h : SetS F w v l) (hs : w.heap.size ≤ w'.heap.size) (e : ∀ g, F g → g < w.heap.size → w'.heap[g]? = w.heap[g]?) : SetS F w' v l := by
  obtain ⟨a, cap, h1, h2, h3, h4⟩ := h
  refine ⟨a, cap, h1, h2, h3, fun h0 => ?_⟩
  obtain ⟨g, o, h5, h6, h7, h8⟩ := h4 h0
  have hb := e g h7 h6
  exact ⟨g, o, h5, Nat.lt_of_lt_of_le h6 hs, h7, fun j hj => (cell_same hb).trans (h8 j hj)⟩
theorem SetS.below {F : Nat → Prop} {w w' : World} {v : Value} {l : List Bool} (h : SetS F w v l) (hb : Below w.heap.size w w') : SetS F w' v l := h.keep hb.size fun g _ hg => hb.block g hg
theorem SetS.wide {F G : Nat → Prop} {w : World} {v : Value} {l : List Bool} (h : SetS F w v l) (hm : ∀ g, g < w.heap.size → F g → G g) : SetS G w v l := by
  obtain ⟨a, cap, h1, h2, h3, h4⟩ := h
  refine ⟨a, cap, h1, h2, h3, fun h0 => ?_⟩
  obtain ⟨g, o, h5, h6, h7, h8⟩ := h4 h0
  exact ⟨g, o, h5, h6, hm g h6 h7, h8⟩
theorem SetS.bits {F : Nat → Prop} {w : World} {v : Value} {l : List Bool} (h : SetS F w v l) : BitS w v l := by
  obtain ⟨a, cap, h1, h2, h3, h4⟩ := h
  refine ⟨a, cap, h1, h2, h3, fun h0 => ?_⟩
  obtain ⟨g, o, h5, h6, _, h8⟩ := h4 h0
  exact ⟨g, o, h5, h6, h8⟩
/-- Block g is the call's own row, which begins with these bools. -/
def RowB (w : World) (g : Nat) (cap : Nat) (S : List Bool) : Prop := ∃ cur : Array Value, w.heap[g]? = some (.cells cur 4 (0, 0)) ∧ cur.size = cap ∧ S.length ≤ cap ∧ ∀ j (_ : j < S.length), cur[j]? = some (.bool S[j])
theorem RowB.lt {w : World} {g cap : Nat} {S : List Bool} (h : RowB w g cap S) : g < w.heap.size := by
  obtain ⟨cur, h1, _⟩ := h
  exact (Array.getElem?_eq_some_iff.1 h1).1
theorem RowB.cell {w : World} {g cap : Nat} {S : List Bool} (h : RowB w g cap S) {j : Nat} (hj : j < S.length) : w.cell? ⟨g, j, none⟩ = some (.bool S[j]) := by
  obtain ⟨cur, h1, _, _, h2⟩ := h
  simp only [World.cell?, h1]
  exact h2 j hj
theorem RowB.frozen {w : World} {g cap : Nat} {S : List Bool} (h : RowB w g cap S) (j : Nat) : w.frozen? ⟨g, j, none⟩ = false := by
  obtain ⟨cur, h1, _⟩ := h
  simp [World.frozen?, h1]
theorem RowB.other {w w' : World} {g cap : Nat} {S : List Bool} (h : RowB w g cap S) (e : w'.heap[g]? = w.heap[g]?) : RowB w' g cap S := by
  obtain ⟨cur, h1, h2⟩ := h
  exact ⟨cur, e.trans h1, h2⟩
theorem RowB.set {w : World} {g cap : Nat} {S : List Bool} (h : RowB w g cap S) (i : Nat) (b : Bool) : RowB (w.setCell ⟨g, i, none⟩ (.bool b)) g cap (S.set i b) := by
  obtain ⟨cur, h1, h2, h3, h4⟩ := h
  refine ⟨cur.setIfInBounds i (.bool b), ?_, by simpa using h2, by simpa using h3, fun j hj => ?_⟩
  · rw [setCell_eq_setRow w g i cur _ _ _ h1]
    exact setRow_heap w g cur _ _ _ h1
  · rw [List.length_set] at hj
    rw [List.getElem_set]
    by_cases e : i = j
    · subst e
      rw [if_pos rfl, Array.getElem?_setIfInBounds_self_of_lt (by omega)]
    · rw [if_neg e, Array.getElem?_setIfInBounds_ne e]
      exact h4 j hj
theorem RowB.set_other {w : World} {g cap : Nat} {S : List Bool} (h : RowB w g cap S) {a : Addr} (ha : g ≠ a.block) (v : Value) : RowB (w.setCell a v) g cap S := h.other (Go.Deep.blk_setCell_other _ _ _ _ ha)
theorem RowB.slice {w : World} {g cap : Nat} {S : List Bool} (h : RowB w g cap S) (hc : cap ≤ 9223372036854775807) (F : Nat → Prop) (hF : F g) : SetS F w (.slice (some ⟨g, 0, none⟩) S.length cap) S := by
  obtain ⟨cur, h1, h2, h3, h4⟩ := id h
  exact ⟨_, cap, rfl, h3, hc, fun _ => ⟨g, 0, rfl, h.lt, hF, fun j hj => by rw [Nat.zero_add]; exact h.cell hj⟩⟩
/-- An own slice is such a row. -/
theorem OwnBo.row {w : World} {B : Nat} {v : Value} {l : List Bool} (h : OwnBo w B v l) (h0 : 0 < l.length) : ∃ g cap, v = .slice (some ⟨g, 0, none⟩) l.length cap ∧ B ≤ g ∧ cap ≤ 9223372036854775807 ∧ RowB w g cap l := by
  rcases h.2 with ⟨rfl, h1⟩ | ⟨g, cap, cur, rfl, hg, hh, hnc, hcp, hcs, htake⟩
  · omega
  · refine ⟨g, cap, rfl, hg, by unfold maxLen at hcp; omega, cur, hh, by omega, hnc, fun j hj => ?_⟩
    have h2 : cur.toList[j]? = (boolsV l)[j]? := by
      rw [← htake, Nat.mul_one, List.getElem?_take_of_lt hj]
    rw [← Array.getElem?_toList, h2]
    simp [boolsV, hj]

end Go.Proofs.Ytdcofdndkpmpaaa

/-
  The given none, ends, place.
-/
namespace Go.Proofs.Ytdcofdndkpmpaaa
open Go.RowKit

theorem Au.has_get {S : List Bool} {i : Nat} (h : i < S.length) : Au.has S i ↔ S[i] = true := by
  unfold Au.has
  rw [List.getElem?_eq_getElem h]
  simp
theorem Au.has_lt {S : List Bool} {i : Nat} (h : Au.has S i) : i < S.length := (List.getElem?_eq_some_iff.1 h).1

set_option maxRecDepth 100000 in
set_option maxHeartbeats 2000000 in
theorem none_any (F : Nat → Prop) (w : World) (v : Value) (S : List Bool) (hv : SetS F w v S) :
    Calls Try.prog 37 #[v] w fun e w' => e = .returned (.bool (Au.empty S)) ∧ Below w.heap.size w w' := by
  obtain ⟨a, cap, rfl, hc1, hc2, hc⟩ := hv
  obtain ⟨n, hn⟩ : ∃ n, n = S.length := ⟨_, rfl⟩
  have HC := Lib.hid hc
  have HN := Lib.hid hn
  have hn2 : n ≤ 9223372036854775807 := by omega
  obtain ⟨r, hr⟩ : ∃ r, Au.empty S = r := ⟨_, rfl⟩
  have HR := Lib.hid hr
  rw [← hn, hr]
  clear hc hc1 hn hr
  go_enter Try.func37, Try.ntmps37
  go_wp2_with fail
  go_loopg [3] n (fun gg vi wx => ∃ i : Nat, i ≤ n ∧ gg = n - i ∧ vi = .int .i64 i ∧ Hid (∀ j, j < i → ¬ Au.has S j) ∧ wx = w)
  case atStart => exact ⟨0, Nat.zero_le _, rfl, rfl, fun j h => by omega, rfl⟩
  case round =>
    obtain ⟨i, hi, rfl, rfl, hS, rfl⟩ := hrel
    by_cases hin : i < n
    · have j1 : (i : Int) < (n : Int) := by omega
      have hl : i < S.length := by rw [← HN.out]; exact hin
      obtain ⟨g, o, rfl, hg, _, hcl⟩ := HC.out (by omega)
      have c1 := hcl i hl
      clear hcl
      cases hb : S[i] with
      | true =>
        rw [hb] at c1
        obtain rfl : false = r := by
          rw [← HR.out]
          symm
          rw [← Bool.not_eq_true, Au.empty_iff]
          exact fun h => h i ((Au.has_get hl).2 hb)
        clear hb hS
        go_wp2_with fail
        go_ret
        exact ⟨rfl, Below.refl _ _⟩
      | false =>
        rw [hb] at c1
        have hst : Hid (∀ j, j < i + 1 → ¬ Au.has S j) := fun j hj => by
          by_cases e : j = i
          · subst e
            rw [Au.has_get hl, hb]
            decide
          · exact hS.out j (by omega)
        clear hb hS
        go_wp2_with fail
        go_roundg (n - (i + 1))
        case rel => exact ⟨i + 1, by omega, rfl, by go_num, hst, rfl⟩
        case measure => omega
    · obtain rfl : i = n := by omega
      obtain rfl : true = r := by
        rw [← HR.out]
        symm
        rw [Au.empty_iff]
        intro j hj
        have := Au.has_lt hj
        rw [← HN.out] at this
        exact hS.out j this hj
      clear hS
      go_wp2_with fail
      go_ret
      exact ⟨rfl, Below.refl _ _⟩

set_option maxRecDepth 100000 in
set_option maxHeartbeats 2000000 in
theorem ends_any (F G : Nat → Prop) (w : World) (u v : Value) (d : List Au.Lo) (S : List Bool) (hu : LoS F w u d) (hv : SetS G w v S) (hlen : S.length = d.length) :
    Calls Try.prog 35 #[u, v] w fun e w' => e = .returned (.bool (Au.ends d S)) ∧ Below w.heap.size w w' := by
  obtain ⟨a, cap, rfl, hc1, hc2, hc⟩ := hv
  obtain ⟨b, cap', rfl, hd1, hd2, hd⟩ := hu
  obtain ⟨n, hn⟩ : ∃ n, n = d.length := ⟨_, rfl⟩
  have HC := Lib.hid hc
  have HD := Lib.hid hd
  have HN := Lib.hid hn
  have hn2 : n ≤ 9223372036854775807 := by omega
  have hn3 : S.length = n := by omega
  have HL := Lib.hid hn3
  obtain ⟨r, hr⟩ : ∃ r, Au.ends d S = r := ⟨_, rfl⟩
  have HR := Lib.hid hr
  rw [hn3, ← hn, hr]
  clear hc hc1 hn hd hd1 hn3 hlen hr
  go_enter Try.func35, Try.ntmps35
  go_wp2_with fail
  go_loopg [5] n (fun gg vi wx => ∃ i : Nat, i ≤ n ∧ gg = n - i ∧ vi = .int .i64 i ∧ Hid (∀ j s, j < i → Au.has S j → d[j]? = some s → s.fin = false) ∧ wx = w)
  case atStart => exact ⟨0, Nat.zero_le _, rfl, rfl, fun j s h => by omega, rfl⟩
  case round =>
    obtain ⟨i, hi, rfl, rfl, hS, rfl⟩ := hrel
    by_cases hin : i < n
    · have j1 : (i : Int) < (n : Int) := by omega
      have hl : i < S.length := by rw [HL.out]; exact hin
      have hl2 : i < d.length := by rw [← HN.out]; exact hin
      obtain ⟨g, o, rfl, hg, _, hcl⟩ := HC.out (by omega)
      obtain ⟨g', o', rfl, hg', _, hcd⟩ := HD.out (by omega)
      have c1 := hcl i hl
      have c2 := (hcd i hl2).1
      have hst : Hid (¬ (S[i] = true ∧ d[i].fin = true) → ∀ j s, j < i + 1 → Au.has S j → d[j]? = some s → s.fin = false) := fun h j s hj hs hd => by
        by_cases e : j = i
        · subst e
          rw [List.getElem?_eq_getElem hl2] at hd
          cases hd
          rw [Au.has_get hl] at hs
          cases hq : d[j].fin
          · rfl
          · exact absurd ⟨hs, hq⟩ h
        · exact hS.out j s (by omega) hs hd
      have hyes : Hid (S[i] = true → d[i].fin = true → Au.ends d S = true) := fun h1 h2 => (Au.ends_iff d S).2 ⟨i, d[i], (Au.has_get hl).2 h1, List.getElem?_eq_getElem hl2, h2⟩
      clear hcl hcd hS
      generalize S[i] = x at *
      generalize d[i].fin = y at *
      cases x
      · have H := Lib.hid (hst.out (by simp))
        clear hst hyes
        go_wp2_with fail
        go_roundg (n - (i + 1))
        case rel => exact ⟨i + 1, by omega, rfl, by go_num, H.out, rfl⟩
        case measure => omega
      · cases y
        · have H := Lib.hid (hst.out (by simp))
          clear hst hyes
          go_wp2_with fail
          go_roundg (n - (i + 1))
          case rel => exact ⟨i + 1, by omega, rfl, by go_num, H.out, rfl⟩
          case measure => omega
        · obtain rfl : true = r := by rw [← HR.out, hyes.out rfl rfl]
          clear hst hyes
          go_wp2_with fail
          go_ret
          exact ⟨rfl, Below.refl _ _⟩
    · obtain rfl : i = n := by omega
      obtain rfl : false = r := by
        rw [← HR.out]
        symm
        rw [← Bool.not_eq_true, Au.ends_iff]
        rintro ⟨j, s, h1, h2, h3⟩
        have := (List.getElem?_eq_some_iff.1 h2).1
        rw [← HN.out] at this
        rw [hS.out j s this h1 h2] at h3
        cases h3
      clear hS
      go_wp2_with fail
      go_ret
      exact ⟨rfl, Below.refl _ _⟩

/-- The value v is a slice of these sets. -/
def SetsS (F : Nat → Prop) (w : World) (v : Value) (L : List (List Bool)) : Prop :=
  ∃ a cap, v = .slice a L.length cap ∧ L.length ≤ cap ∧ cap ≤ 9223372036854775807 ∧ (0 < L.length → ∃ g o, a = some ⟨g, o, none⟩ ∧ g < w.heap.size ∧ F g ∧ ∀ j (_ : j < L.length), ∃ va, w.cell? ⟨g, o + j, none⟩ = some va ∧ SetS F w va L[j])

namespace Au
/-- The first set that is the same, or -1. -/
def place (L : List (List Bool)) (S : List Bool) : Int := if find (fun a b => decide (a = b)) L S = L.length then -1 else (find (fun a b => decide (a = b)) L S : Nat)
theorem find_drop {σ : Type} (same : σ → σ → Bool) (L : List σ) (S : σ) (i : Nat) (h : ∀ j (hj : j < L.length), j < i → same L[j] S = false) (hi : i ≤ L.length) : find same L S = i + find same (L.drop i) S := by
  induction L generalizing i with
  | nil =>
    have : i = 0 := by simpa using hi
    subst this
    simp [find]
  | cons m r ih =>
    cases i with
    | zero => simp
    | succ i =>
      have h0 := h 0 (by simp) (by omega)
      simp only [List.getElem_cons_zero] at h0
      simp only [find, h0, List.drop_succ_cons, Bool.false_eq_true, if_false]
      have := ih i (fun j hj hji => by have := h (j + 1) (by simp; omega) (by omega); simpa using this) (by simpa using hi)
      omega
end Au

set_option maxRecDepth 100000 in
set_option maxHeartbeats 4000000 in
theorem place_any (F G : Nat → Prop) (w : World) (u v : Value) (L : List (List Bool)) (S : List Bool) (hu : SetsS F w u L) (hv : SetS G w v S) (hall : ∀ s ∈ L, s.length = S.length) :
    Calls Try.prog 38 #[u, v] w fun e w' => e = .returned (.int .i64 (Au.place L S)) ∧ Below w.heap.size w w' := by
  obtain ⟨a, cap, rfl, hc1, hc2, hc⟩ := hv
  obtain ⟨b, cap', rfl, hd1, hd2, hd⟩ := hu
  obtain ⟨n, hn⟩ : ∃ n, n = L.length := ⟨_, rfl⟩
  obtain ⟨m, hm⟩ : ∃ m, m = S.length := ⟨_, rfl⟩
  have HC := Lib.hid hc
  have HD := Lib.hid hd
  have HN := Lib.hid hn
  have HM := Lib.hid hm
  have HA := Lib.hid hall
  have hn2 : n ≤ 9223372036854775807 := by omega
  have hm2 : m ≤ 9223372036854775807 := by omega
  have hfd := Lib.hid (fun i => Au.find_drop (fun a b => decide (a = b)) L S i)
  obtain ⟨r, hr⟩ : ∃ r, Au.place L S = r := ⟨_, rfl⟩
  have HR := Lib.hid hr
  rw [hr, ← hn, ← hm]
  clear hc hc1 hn hd hd1 hall hm hr
  go_enter Try.func38, Try.ntmps38
  go_wp2_with fail
  go_loopg [5] n (fun gg vi wx => ∃ i : Nat, i ≤ n ∧ gg = n - i ∧ vi = .int .i64 i ∧ Hid (∀ j (hj : j < L.length), j < i → L[j] ≠ S) ∧ Below w.heap.size w wx)
  case atStart => exact ⟨0, Nat.zero_le _, rfl, rfl, fun j _ h => by omega, Below.refl _ _⟩
  case round =>
    obtain ⟨i, hi, rfl, rfl, hS, hbel⟩ := hrel
    have HBE := Lib.hid hbel
    by_cases hin : i < n
    · have j1 : (i : Int) < (n : Int) := by omega
      have hl : i < L.length := by rw [← HN.out]; exact hin
      obtain ⟨g', o', rfl, hg', _, hcd⟩ := HD.out (by omega)
      obtain ⟨va, d1, hva⟩ := hcd i hl
      have hal := HA.out L[i] (List.getElem_mem hl)
      have hst : Hid (L[i] ≠ S → ∀ j (hj : j < L.length), j < i + 1 → L[j] ≠ S) := fun h j hj hji => by
        by_cases e : j = i
        · subst e; exact h
        · exact hS.out j hj (by omega)
      have hyes : Hid (L[i] = S → (i : Int) = r) := fun h => by
        rw [← HR.out]
        unfold Au.place
        have h1 := hfd.out i (fun j hj hji => decide_eq_false (hS.out j hj hji)) (by omega)
        have h2 : Au.find (fun a b => decide (a = b)) (L.drop i) S = 0 := by
          rw [List.drop_eq_getElem_cons hl]
          simp only [Au.find, h, decide_true, if_true]
        rw [h2] at h1
        rw [h1, if_neg (by omega)]
        simp
      clear hcd hS hbel
      generalize L[i] = x at *
      obtain ⟨a2, cap2, rfl, he1, he2, he⟩ := hva
      rw [hal, ← HM.out] at d1
      have HX := Lib.hid hal
      have HE := Lib.hid he
      clear he hal he1
      go_wp2_with fail
      go_loopg [6, 7] m (fun gg vs vk wx => ∃ k : Nat, k ≤ m ∧ gg = m - k ∧ vs = .bool (decide (x.take k = S.take k)) ∧ vk = .int .i64 k ∧ Below w.heap.size w wx)
      case atStart => exact ⟨0, Nat.zero_le _, rfl, by rw [List.take_zero, List.take_zero]; rfl, rfl, HBE.out⟩
      case round =>
        obtain ⟨k, hk, rfl, rfl, rfl, hbel⟩ := hrel
        have HBE2 := Lib.hid hbel
        have D1 := (hbel.cell (p := ⟨g', o' + i, none⟩) hg').trans d1
        by_cases hkm : k < m
        · have j2 : (k : Int) < (m : Int) := by omega
          have kx : k < x.length := by rw [HX.out, ← HM.out]; exact hkm
          have ky : k < S.length := by rw [← HM.out]; exact hkm
          obtain ⟨h, p, rfl, hh, _, hcx⟩ := HE.out (by omega)
          obtain ⟨h', p', rfl, hh', _, hcy⟩ := HC.out (by omega)
          have E1 := (hbel.cell (p := ⟨h, p + k, none⟩) hh).trans (hcx k kx)
          have E2 := (hbel.cell (p := ⟨h', p' + k, none⟩) hh').trans (hcy k ky)
          have hnx : Hid (decide (x.take (k + 1) = S.take (k + 1)) = (decide (x.take k = S.take k) && (x[k] == S[k]))) := by
            show _ = _
            rw [List.take_succ_eq_append_getElem kx, List.take_succ_eq_append_getElem ky, Bool.eq_iff_iff]
            simp only [decide_eq_true_eq, Bool.and_eq_true, beq_iff_eq]
            constructor
            · intro e
              have := List.append_inj e (by rw [List.length_take, List.length_take]; omega)
              exact ⟨this.1, by simpa using this.2⟩
            · rintro ⟨e1, e2⟩
              rw [e1, e2]
          clear hcx hcy hbel
          generalize x[k] = bx at *
          generalize S[k] = bs at *
          generalize decide (x.take k = S.take k) = bb at *
          cases bb
          · have hnx2 : Hid (decide (x.take (k + 1) = S.take (k + 1)) = false) := by rw [hnx.out]; rfl
            clear hnx
            go_wp2_with fail
            go_quiet (fail)
            go_wp2_with fail
            go_roundg (m - (k + 1))
            case rel => exact ⟨k + 1, by omega, rfl, by rw [hnx2.out], by go_num, belowN HBE2.out _⟩
            case measure => omega
          · have hnx2 : Hid (decide (x.take (k + 1) = S.take (k + 1)) = (bx == bs)) := by rw [hnx.out]; rfl
            clear hnx
            cases bx <;> cases bs
            all_goals
              go_wp2_with fail
              go_quiet (fail)
              go_wp2_with fail
              go_roundg (m - (k + 1))
              case rel => exact ⟨k + 1, by omega, rfl, by rw [hnx2.out]; rfl, by go_num, belowN HBE2.out _⟩
              case measure => omega
        · obtain rfl : k = m := by omega
          have hx : x.take k = x := List.take_of_length_le (by rw [HX.out, ← HM.out]; exact Nat.le_refl _)
          have hs : S.take k = S := List.take_of_length_le (by rw [← HM.out]; exact Nat.le_refl _)
          rw [hx, hs]
          clear hx hs hbel
          by_cases e : x = S
          · have hr := hyes.out e
            rw [decide_eq_true e]
            subst hr
            clear e hst hyes
            go_wp2_with fail
            go_ret
            exact ⟨rfl, HBE2.out⟩
          · have H := Lib.hid (hst.out e)
            rw [decide_eq_false e]
            clear e hst hyes
            go_wp2_with fail
            go_roundg (n - (i + 1))
            case rel => exact ⟨i + 1, by omega, rfl, by go_num, H.out, HBE2.out⟩
            case measure => omega
    · obtain rfl : i = n := by omega
      obtain rfl : -1 = r := by
        rw [← HR.out]
        unfold Au.place
        have h1 := hfd.out i (fun j hj hji => decide_eq_false (hS.out j hj hji)) (by rw [HN.out]; exact Nat.le_refl _)
        have h2 : L.drop i = [] := List.drop_of_length_le (by rw [HN.out]; exact Nat.le_refl _)
        rw [h2] at h1
        rw [h1, if_pos (by rw [← HN.out]; rfl)]
      clear hS hbel
      go_wp2_with fail
      go_ret
      exact ⟨rfl, HBE.out⟩

end Go.Proofs.Ytdcofdndkpmpaaa

/-
  The given Spread: a set, and what it leads to by nothing.
-/
namespace Go.Proofs.Ytdcofdndkpmpaaa
open Go.RowKit
namespace Au
/-- A set lies between the one and what that leads to. -/
structure Mid (d : List Lo) (S T : List Bool) : Prop where
  len : T.length = d.length
  sup : ∀ i, has S i → has T i
  sub : ∀ i, has T i → ∃ j, has S j ∧ Star d j i
def Shut (d : List Lo) (T : List Bool) (i : Nat) : Prop := has T i → ∀ s f, d[i]? = some s → f ∈ s.free → has T f.toNat
theorem Mid.shut {d : List Lo} {S T : List Bool} (h : Mid d S T) (hs : ∀ i, i < d.length → Shut d T i) : T = spread d S := by
  apply set_ext (by rw [h.len, spread_length])
  intro i
  constructor
  · intro hi
    have := has_lt hi
    rw [h.len] at this
    exact (has_setOf _ _ _).2 ⟨this, h.sub i hi⟩
  · intro hi
    obtain ⟨hlt, j, hj, hst⟩ := (has_setOf _ _ _).1 hi
    have hj := h.sup j hj
    clear hi hlt
    induction hst with
    | refl => exact hj
    | step _ h1 h2 ih => exact hs _ (List.getElem?_eq_some_iff.1 h1).1 ih _ _ h1 h2
theorem Mid.start {d : List Lo} {S : List Bool} (h : S.length = d.length) : Mid d S S := ⟨h, fun _ h => h, fun i h => ⟨i, h, .refl⟩⟩
theorem has_set {T : List Bool} {f i : Nat} (hf : f < T.length) : has (T.set f true) i ↔ i = f ∨ has T i := by
  unfold has
  rw [List.getElem?_set]
  by_cases h : f = i
  · subst h; simp [hf]
  · rw [if_neg h]
    constructor
    · exact fun h => .inr h
    · rintro (rfl | h')
      · exact absurd rfl h
      · exact h'
theorem Mid.grow {d : List Lo} {S T : List Bool} (h : Mid d S T) {i f : Nat} {s : Lo} {z : Int} (hi : has T i) (hs : d[i]? = some s) (hz : z ∈ s.free) (hf : z.toNat = f) (hl : f < d.length) : Mid d S (T.set f true) := by
  refine ⟨by rw [List.length_set, h.len], fun j hj => ?_, fun j hj => ?_⟩
  · exact (has_set (by rw [h.len]; exact hl)).2 (.inr (h.sup j hj))
  · rcases (has_set (by rw [h.len]; exact hl)).1 hj with rfl | hj
    · obtain ⟨k, h1, h2⟩ := h.sub i hi
      exact ⟨k, h1, hf ▸ .step h2 hs hz⟩
    · exact h.sub j hj
theorem count_set_lt {T : List Bool} {f : Nat} (hf : f < T.length) (h : T[f] = false) : (T.set f true).count false < T.count false := by
  have h1 := List.count_set (a := true) (b := false) hf
  have h2 : 0 < T.count false := List.count_pos_iff.2 (h ▸ List.getElem_mem hf)
  rw [h1, h]
  simp
  omega
/-- What is left to do at most. -/
def left : Bool → List Bool → Nat
  | true, T => T.count false + 1
  | false, _ => 0
/-- How a pass over the states stands. -/
def Pass (d : List Lo) (T T' : List Bool) (m : Bool) (i : Nat) : Prop := (m = false ∧ T' = T ∧ ∀ j, j < i → Shut d T j) ∨ (m = true ∧ T'.count false < T.count false)
/-- And within one state. -/
def Pass3 (d : List Lo) (T T' : List Bool) (m : Bool) (i k : Nat) (l : List Int) : Prop := (m = false ∧ T' = T ∧ (∀ j, j < i → Shut d T j) ∧ ∀ j (h : j < l.length), j < k → has T l[j].toNat) ∨ (m = true ∧ T'.count false < T.count false)
end Au

set_option maxRecDepth 100000 in
set_option maxHeartbeats 4000000 in
theorem spread_any (F G : Nat → Prop) (w : World) (u v : Value) (d : List Au.Lo) (S : List Bool) (hu : LoS F w u d) (hv : SetS G w v S) (hlen : S.length = d.length) (h0 : 0 < d.length) (hbig : d.length ≤ 1099511627776)
    (hfree : ∀ i (h : i < d.length), ∀ f ∈ d[i].free, 0 ≤ f ∧ f < d.length) :
    Calls Try.prog 34 #[u, v] w fun e w' => ∃ g cap, e = .returned (.slice (some ⟨g, 0, none⟩) d.length cap) ∧ w.heap.size ≤ g ∧ cap ≤ 9223372036854775807 ∧ RowB w' g cap (Au.spread d S) ∧ Below w.heap.size w w' := by
  have LB : Below w.heap.size w (w.alloc (.cells #[] 4)) := (Below.refl _ _).alloc (Nat.le_refl _) _
  have L0 : OwnBo (w.alloc (.cells #[] 4)) w.heap.size (.slice (some ⟨w.heap.size, 0, none⟩) 0 0) [] := World.ownsRow_lit (e := 4) (size := 1) w #[] 0 (Nat.le_refl _) (by unfold maxLen; omega) rfl
  have hbits := hv.bits.below LB (Nat.le_refl _)
  obtain ⟨a, cap, rfl, hc1, hc2, hc⟩ := hv
  obtain ⟨g1, o1, rfl, _, _, _⟩ := hc (by omega)
  have HA := Lib.hid (And.intro L0 (And.intro LB hbits))
  obtain ⟨b, cap', rfl, hd1, hd2, hd⟩ := hu
  obtain ⟨n, hn⟩ : ∃ n, n = d.length := ⟨_, rfl⟩
  have HD := Lib.hid hd
  have HN := Lib.hid hn
  have HFR := Lib.hid hfree
  have hSn : S.length = n := by omega
  have HSL := Lib.hid hlen
  have hS0 : 0 < S.length := by omega
  rw [← hn] at h0 hbig ⊢
  clear LB L0 hbits hc hd hc1 hd1 hfree hlen
  have HSn := Lib.hid hSn
  have hSb : S.length ≤ 1099511627776 := by omega
  clear hn
  go_enter Try.func34, Try.ntmps34
  go_wp2_with (at_builtin; refine wpList_appBo rfl _ _ rfl w.heap.size (by simp) (.slice (some ⟨w.heap.size, 0, none⟩) 0 0) [] S rfl HA.out.1 ⟨g1, o1, none⟩ cap rfl HA.out.2.2 (by simp; omega) ?_; intro v1 w1 hown1 hb1; obtain ⟨g, cap2, rfl, hgB, hcp, hrow⟩ := OwnBo.row hown1 (by simp; omega))
  have HB1 : Hid (Below w.heap.size w w1) := HA.out.2.1.trans hb1
  have HR1 : Hid (RowB w1 g cap2 S) := hrow
  clear hown1 hb1 hrow HA
  have HM1 : Hid (Au.Mid d S S) := Au.Mid.start HSL.out
  clear hSn hS0 hSb HSn
  go_loopg [6] (Au.left true S) (fun gg vm wx => ∃ (m : Bool) (T : List Bool), gg = Au.left m T ∧ vm = .bool m ∧ Hid (Au.Mid d S T) ∧ Hid (m = false → ∀ i, i < d.length → Au.Shut d T i) ∧ Hid (RowB wx g cap2 T) ∧ Below w.heap.size w wx)
  case atStart => exact ⟨true, S, rfl, rfl, HM1, (fun h => by cases h), HR1, HB1.out⟩
  case round =>
    obtain ⟨m, T, rfl, rfl, hM, hC, hR, hbel⟩ := hrel
    have HBE := Lib.hid hbel
    clear hbel
    cases m with
    | false =>
      have hfin : T = Au.spread d S := hM.out.shut (hC.out rfl)
      have HF : Hid (RowB wr g cap2 (Au.spread d S)) := by rw [← hfin]; exact hR
      clear hM hC hR hfin
      go_wp2_with fail
      go_ret
      exact ⟨g, cap2, rfl, hgB, hcp, HF.out, HBE.out⟩
    | true =>
      clear hC
      go_wp2_with fail
      go_loopg [6, 7] n (fun gg vm vi wx => ∃ (i : Nat) (m : Bool) (T' : List Bool), i ≤ n ∧ gg = n - i ∧ vm = .bool m ∧ vi = .int .i64 i ∧ Hid (Au.Mid d S T') ∧ Hid (Au.Pass d T T' m i) ∧ Hid (RowB wx g cap2 T') ∧ Below w.heap.size w wx)
      case atStart => exact ⟨0, false, T, Nat.zero_le _, rfl, rfl, rfl, hM, .inl ⟨rfl, rfl, fun j h => by omega⟩, hR, HBE.out⟩
      case round =>
        obtain ⟨i, m, T', hi, rfl, rfl, rfl, hM', hP, hR', hbel⟩ := hrel
        have HBE2 := Lib.hid hbel
        by_cases hin : i < n
        · have j1 : (i : Int) < (n : Int) := by omega
          have hid : i < d.length := by rw [← HN.out]; exact hin
          obtain ⟨g', o', rfl, hg', _, hcd⟩ := HD.out (by omega)
          obtain ⟨_, _, vf, d1, hvf⟩ := hcd i hid
          have hdi : Hid (d[i]? = some d[i]) := List.getElem?_eq_getElem hid
          have hfr := Lib.hid (HFR.out i hid)
          clear hcd hbel
          generalize d[i] = s at *
          obtain ⟨sf, sa, fr⟩ := s
          dsimp only at hvf hfr
          obtain ⟨a2, cap3, rfl, he1, he2, he⟩ := hvf
          obtain ⟨q, hq⟩ : ∃ q, q = fr.length := ⟨_, rfl⟩
          have HE := Lib.hid he
          have HQ := Lib.hid hq
          have hq2 : q ≤ 9223372036854775807 := by omega
          rw [← hq] at d1
          clear he he1 hq
          go_wp2_with fail
          go_loopg [6, 8] q (fun gg vm vk wx => ∃ (k : Nat) (m : Bool) (T' : List Bool), k ≤ q ∧ gg = q - k ∧ vm = .bool m ∧ vk = .int .i64 k ∧ Hid (Au.Mid d S T') ∧ Hid (Au.Pass3 d T T' m i k fr) ∧ Hid (RowB wx g cap2 T') ∧ Below w.heap.size w wx)
          case atStart =>
            refine ⟨0, m, T', Nat.zero_le _, rfl, rfl, rfl, hM', ?_, hR', HBE2.out⟩
            rcases hP.out with ⟨h1, h2, h3⟩ | h
            · exact .inl ⟨h1, h2, h3, fun j _ h => by omega⟩
            · exact .inr h
          case round =>
            clear hM' hP hR' HBE2
            obtain ⟨k, m, T', hk, rfl, rfl, rfl, hM', hP, hR', hbel⟩ := hrel
            have HBE2 := Lib.hid hbel
            have D1 := (hbel.cell (p := ⟨g', o' + i * 3 + 2, none⟩) hg').trans d1
            have hiT : i < T'.length := by rw [hM'.out.len]; exact hid
            have r1 := hR'.out.cell hiT
            have hasi := Lib.hid (Au.has_get hiT)
            have hlen' := Lib.hid hM'.out.len
            by_cases hq : k < q
            · have j2 : (k : Int) < (q : Int) := by omega
              have kl : k < fr.length := by rw [← HQ.out]; exact hq
              obtain ⟨h, p, rfl, hh, _, hcl⟩ := HE.out (by omega)
              have e1 := (hbel.cell (p := ⟨h, p + k, none⟩) hh).trans (hcl k kl)
              have hz := hfr.out fr[k] (List.getElem_mem kl)
              obtain ⟨f, hf⟩ : ∃ f : Nat, fr[k] = (f : Int) := ⟨fr[k].toNat, by omega⟩
              have hfm : Hid ((f : Int) ∈ fr) := by
                show _ ∈ _
                rw [← hf]
                exact List.getElem_mem kl
              have hfl : f < d.length := by omega
              have hfT : f < T'.length := by rw [hM'.out.len]; exact hfl
              have r2 := hR'.out.cell hfT
              have z1 := hR'.out.frozen f
              have j3 : (f : Int) < (n : Int) := by rw [HN.out]; omega
              have j4 : (0 : Int) ≤ (f : Int) := by omega
              rw [hf] at e1
              have hgrow : Hid (T'[i] = true → Au.Mid d S (T'.set f true)) := fun hb => hM'.out.grow (hasi.out.2 hb) hdi.out hfm.out (Int.toNat_natCast f) hfl
              have hcnt : Hid (T'[f] = false → (T'.set f true).count false < T'.count false) := fun hb => Au.count_set_lt hfT hb
              have hRow : Hid (RowB (wr.setCell ⟨g, f, none⟩ (.bool true)) g cap2 (T'.set f true)) := hR'.out.set f true
              have hBel : Hid (Below w.heap.size w (wr.setCell ⟨g, f, none⟩ (.bool true))) := hbel.setCell (p := ⟨g, f, none⟩) hgB _
              have hstay : Hid (T'[f] = true → Au.Pass3 d T T' m i (k + 1) fr) := fun hb => by
                rcases hP.out with ⟨h1, h2, h3, h4⟩ | h
                · refine .inl ⟨h1, h2, h3, fun j hj hjk => ?_⟩
                  by_cases e : j = k
                  · subst e
                    rw [hf, Int.toNat_natCast, ← h2]
                    exact (Au.has_get hfT).2 hb
                  · exact h4 j hj (by omega)
                · exact .inr h
              have hless : Hid ((T'.set f true).count false < T'.count false → Au.Pass3 d T (T'.set f true) true i (k + 1) fr) := fun hl => by
                rcases hP.out with ⟨_, h2, _, _⟩ | ⟨_, h2⟩
                · exact .inr ⟨rfl, by rw [h2] at hl ⊢; exact hl⟩
                · exact .inr ⟨rfl, by omega⟩
              have hend : Hid (T'[i] = false → Au.Pass d T T' m (i + 1)) := fun hb => by
                rcases hP.out with ⟨h1, h2, h3, h4⟩ | h
                · refine .inl ⟨h1, h2, fun j hj => ?_⟩
                  by_cases e : j = i
                  · subst e
                    intro hh
                    rw [← h2, hasi.out, hb] at hh
                    cases hh
                  · exact h3 j (by omega)
                · exact .inr h
              clear hP hcl hf hz hbel
              generalize T'[i] = bi at *
              generalize T'[f] = bf at *
              cases bi
              · have H := Lib.hid (hend.out rfl)
                clear hend hless hstay hcnt hgrow
                go_wp2_with fail
                go_roundg (n - (i + 1))
                case rel => exact ⟨i + 1, m, T', by omega, rfl, rfl, by go_num, hM', H.out, hR', HBE2.out⟩
                case measure => omega
              · cases bf
                · have H1 := Lib.hid (hgrow.out rfl)
                  have H2 := Lib.hid (hless.out (hcnt.out rfl))
                  clear hend hless hstay hcnt hgrow
                  go_wp2_with fail
                  go_roundg (q - (k + 1))
                  case rel => exact ⟨k + 1, true, _, by omega, rfl, rfl, by go_num, H1, H2.out, hRow, hBel.out⟩
                  case measure => omega
                · have H := Lib.hid (hstay.out rfl)
                  clear hend hless hstay hcnt hgrow
                  go_wp2_with fail
                  go_roundg (q - (k + 1))
                  case rel => exact ⟨k + 1, m, T', by omega, rfl, rfl, by go_num, hM', H.out, hR', HBE2.out⟩
                  case measure => omega
            · obtain rfl : k = q := by omega
              have hend : Hid (Au.Pass d T T' m (i + 1)) := by
                rcases hP.out with ⟨h1, h2, h3, h4⟩ | h
                · refine .inl ⟨h1, h2, fun j hj => ?_⟩
                  by_cases e : j = i
                  · subst e
                    intro _ s f hs hf
                    rw [hdi.out] at hs
                    cases hs
                    obtain ⟨x, hx, rfl⟩ := List.getElem_of_mem hf
                    exact h4 x hx (by rw [HQ.out]; exact hx)
                  · exact h3 j (by omega)
                · exact .inr h
              clear hP hbel
              generalize T'[i] = bi at *
              cases bi
              all_goals
                go_wp2_with fail
                go_roundg (n - (i + 1))
                case rel => exact ⟨i + 1, m, T', by omega, rfl, rfl, by go_num, hM', hend.out, hR', HBE2.out⟩
                case measure => omega
        · obtain rfl : i = n := by omega
          have hC2 : Hid (m = false → ∀ j, j < d.length → Au.Shut d T' j) := fun hm => by
            rcases hP.out with ⟨_, h2, h3⟩ | ⟨h1, _⟩
            · rw [h2]
              intro j hj
              exact h3 j (by rw [HN.out]; exact hj)
            · rw [h1] at hm; cases hm
          have hless : Au.left m T' < Au.left true T := by
            rcases hP.out with ⟨h1, _⟩ | ⟨h1, h2⟩
            · subst h1
              show 0 < _ + 1
              omega
            · subst h1
              show _ + 1 < _ + 1
              omega
          have HLS := Lib.hid hless
          clear hP hbel hless
          go_wp2_with fail
          go_roundg (Au.left m T')
          case rel => exact ⟨m, T', rfl, rfl, hM', hC2, hR', HBE2.out⟩
          case measure => exact HLS.out

end Go.Proofs.Ytdcofdndkpmpaaa

/-
  The given Over: the set that a byte leads to; the given Takes.
-/
namespace Go.Proofs.Ytdcofdndkpmpaaa
open Go.RowKit

theorem row_made (w : World) (n : Nat) : RowB (w.alloc (.cells (madeCells #[.bool false] n) 4)) w.heap.size n (List.replicate n false) := by
  obtain ⟨c, h1, h2, h3⟩ := World.rowIs_made w (.bool false) n 4
  refine ⟨c, h1, h2, by simp, fun j hj => ?_⟩
  rw [List.length_replicate] at hj
  rw [h3 j hj]
  simp
namespace Au
/-- What the first states lead to. -/
def Lead (d : List Lo) (S : List Bool) (c : Nat) (i j : Nat) : Prop := ∃ k s a, k < i ∧ has S k ∧ d[k]? = some s ∧ a ∈ s.arcs ∧ a.lo ≤ (c : Int) ∧ (c : Int) ≤ a.hi ∧ a.to.toNat = j
/-- And the first arcs of the next. -/
def Lead3 (d : List Lo) (S : List Bool) (c : Nat) (i : Nat) (l : List Arc) (k j : Nat) : Prop := Lead d S c i j ∨ (has S i ∧ ∃ x, ∃ h : x < l.length, x < k ∧ l[x].lo ≤ (c : Int) ∧ (c : Int) ≤ l[x].hi ∧ l[x].to.toNat = j)
theorem not_has_false (n j : Nat) : ¬ has (List.replicate n false) j := by
  unfold has
  rw [List.getElem?_replicate]
  split <;> simp
end Au

set_option maxRecDepth 100000 in
set_option maxHeartbeats 4000000 in
theorem over_any (F G : Nat → Prop) (w : World) (u v : Value) (d : List Au.Lo) (S : List Bool) (c : Nat) (hu : LoS F w u d) (hv : SetS G w v S) (hlen : S.length = d.length) (hmay : Au.May d) (hbig : d.length ≤ 1099511627776) :
    Calls Try.prog 36 #[u, v, .int .i64 c] w fun e w' => ∃ g cap, e = .returned (.slice (some ⟨g, 0, none⟩) d.length cap) ∧ w.heap.size ≤ g ∧ cap ≤ 9223372036854775807 ∧ RowB w' g cap (Au.over d S c) ∧ Below w.heap.size w w' := by
  have HSP : Hid (∀ W g T, Below w.heap.size w W → RowB W g d.length T → T.length = d.length → Calls Try.prog 34 #[u, .slice (some ⟨g, 0, none⟩) d.length d.length] W fun e w' => ∃ g cap, e = .returned (.slice (some ⟨g, 0, none⟩) d.length cap) ∧ W.heap.size ≤ g ∧ cap ≤ 9223372036854775807 ∧ RowB w' g cap (Au.spread d T) ∧ Below W.heap.size W w') := fun W g T hb hr hl => by
    have h := hr.slice (by omega) (fun _ => True) trivial
    rw [hl] at h
    exact spread_any F (fun _ => True) W u _ d T (hu.below hb) h hl hmay.pos hbig hmay.free
  obtain ⟨a, cap, rfl, hc1, hc2, hc⟩ := hv
  obtain ⟨b, cap', rfl, hd1, hd2, hd⟩ := hu
  obtain ⟨n, hn⟩ : ∃ n, n = d.length := ⟨_, rfl⟩
  have hSn : S.length = n := by omega
  have hn0 : 0 < n := by have := hmay.pos; omega
  have HC := Lib.hid hc
  have HD := Lib.hid hd
  have HN := Lib.hid hn
  have HSN := Lib.hid hSn
  have HMAY := Lib.hid hmay
  have hO : Hid (∀ T : List Bool, T.length = n → (∀ j, Au.has T j ↔ Au.Lead d S c n j) → Au.spread d T = Au.over d S c) := fun T hl h => by
    unfold Au.over
    congr 1
    apply Au.set_ext (by rw [Au.setOf_length]; omega)
    intro j
    rw [h j, Au.has_setOf]
    constructor
    · rintro ⟨k, s, x, h1, h2, h3, h4, h5, h6, h7⟩
      obtain ⟨hkl, rfl⟩ := List.getElem?_eq_some_iff.1 h3
      have := hmay.arc k hkl x h4
      exact ⟨by omega, k, d[k], x, h2, h3, h4, h5, h6, h7⟩
    · rintro ⟨_, k, s, x, h2, h3, h4, h5, h6, h7⟩
      have := (List.getElem?_eq_some_iff.1 h3).1
      exact ⟨k, s, x, by omega, h2, h3, h4, h5, h6, h7⟩
  have hmk := run_make_row' (P := Try.prog) 62 4 (.bool false) 1 Try.underlying62 Try.infoBo rfl .i64 .i64 n (by omega) (by omega)
  have HR0 := Lib.hid (row_made w n)
  have HB0 : Hid (Below w.heap.size w (w.alloc (.cells (madeCells #[.bool false] n) 4))) := (Below.refl _ _).alloc (Nat.le_refl _) _
  rw [← hn] at HSP hbig ⊢
  rw [hSn]
  clear hc hd hc1 hd1 hlen hmay hn hSn
  go_enter Try.func36, Try.ntmps36
  go_wp2_with fail
  generalize w.alloc (.cells (madeCells #[.bool false] n) 4) = w1 at *
  clear hmk
  obtain ⟨g, hg⟩ : ∃ g, w.heap.size = g := ⟨_, rfl⟩
  have hgB : w.heap.size ≤ g := by omega
  rw [hg] at HR0 ⊢
  go_loopg [8] n (fun gg vi wx => ∃ (i : Nat) (T : List Bool), i ≤ n ∧ gg = n - i ∧ vi = .int .i64 i ∧ Hid (T.length = n) ∧ Hid (∀ j, Au.has T j ↔ Au.Lead d S c i j) ∧ Hid (RowB wx g n T) ∧ Below w.heap.size w wx)
  case atStart =>
    refine ⟨0, List.replicate n false, Nat.zero_le _, rfl, rfl, (by show _ = _; simp), fun j => ?_, HR0, HB0.out⟩
    constructor
    · intro h; exact absurd h (Au.not_has_false n j)
    · rintro ⟨k, s, x, h1, _⟩; omega
  case round =>
    obtain ⟨i, T, hi, rfl, rfl, hT, hI, hR, hbel⟩ := hrel
    have HBE := Lib.hid hbel
    by_cases hin : i < n
    · have j1 : (i : Int) < (n : Int) := by omega
      have hid : i < d.length := by rw [← HN.out]; exact hin
      have hiS : i < S.length := by rw [HSN.out]; exact hin
      obtain ⟨g', o', rfl, hg', _, hcd⟩ := HD.out (by omega)
      obtain ⟨g2, o2, rfl, hg2, _, hcs⟩ := HC.out (by omega)
      obtain ⟨_, ⟨va, d1, hva⟩, _⟩ := hcd i hid
      have s1 := hcs i hiS
      have hasi := Lib.hid (Au.has_get hiS)
      have hdi : Hid (d[i]? = some d[i]) := List.getElem?_eq_getElem hid
      have har := Lib.hid (HMAY.out.arc i hid)
      clear hcd hcs hbel
      generalize d[i] = s at *
      generalize S[i] = bi at *
      obtain ⟨sf, l, fr⟩ := s
      dsimp only at hva har
      obtain ⟨a2, cap3, rfl, he1, he2, he⟩ := hva
      obtain ⟨q, hq⟩ : ∃ q, q = l.length := ⟨_, rfl⟩
      have HE := Lib.hid he
      have HQ := Lib.hid hq
      have hq2 : q ≤ 9223372036854775807 := by omega
      rw [← hq] at d1
      clear he he1 hq
      have hnext : Hid (∀ T' : List Bool, (bi = false ∧ (∀ j, Au.has T' j ↔ Au.Lead3 d S c i l 0 j) ∨ (∀ j, Au.has T' j ↔ Au.Lead3 d S c i l q j)) → ∀ j, Au.has T' j ↔ Au.Lead d S c (i + 1) j) := by
        have h1 : ∀ j, Au.Lead3 d S c i l q j ↔ Au.Lead d S c (i + 1) j := fun j => by
          constructor
          · rintro (⟨k, s, x, h1, h⟩ | ⟨h1, x, hx, _, h3⟩)
            · exact ⟨k, s, x, by omega, h⟩
            · exact ⟨i, _, l[x], by omega, h1, hdi.out, List.getElem_mem hx, h3⟩
          · rintro ⟨k, s, x, h1, h2, h3, h4, h5⟩
            by_cases e : k = i
            · subst e
              right
              rw [hdi.out] at h3
              cases h3
              obtain ⟨y, hy, rfl⟩ := List.getElem_of_mem h4
              exact ⟨h2, y, hy, by rw [HQ.out]; exact hy, h5⟩
            · exact .inl ⟨k, s, x, by omega, h2, h3, h4, h5⟩
        intro T' h j
        rcases h with ⟨hb, h⟩ | h
        · rw [h j]
          constructor
          · rintro (⟨k, s, x, h1, h⟩ | ⟨h1, x, hx, h0, _⟩)
            · exact ⟨k, s, x, by omega, h⟩
            · omega
          · rintro ⟨k, s, x, h1, h2, h3⟩
            by_cases e : k = i
            · subst e
              rw [hasi.out, hb] at h2
              cases h2
            · exact .inl ⟨k, s, x, by omega, h2, h3⟩
        · rw [h j]
          exact h1 j
      go_wp2_with fail
      go_loopg [9] q (fun gg vk wx => ∃ (k : Nat) (T' : List Bool), k ≤ q ∧ gg = q - k ∧ vk = .int .i64 k ∧ Hid (bi = false → k = 0) ∧ Hid (T'.length = n) ∧ Hid (∀ j, Au.has T' j ↔ Au.Lead3 d S c i l k j) ∧ Hid (RowB wx g n T') ∧ Below w.heap.size w wx)
      case atStart =>
        refine ⟨0, T, Nat.zero_le _, rfl, rfl, fun _ => rfl, hT, fun j => ?_, hR, HBE.out⟩
        rw [hI.out j]
        constructor
        · intro h; exact .inl h
        · rintro (h | ⟨_, x, _, h, _⟩)
          · exact h
          · omega
      case round =>
        clear hT hI hR HBE
        obtain ⟨k, T', hk, rfl, rfl, hk0, hT, hI, hR, hbel⟩ := hrel
        have HBE := Lib.hid hbel
        have D1 := (hbel.cell (p := ⟨g', o' + i * 3 + 1, none⟩) hg').trans d1
        have S1 := (hbel.cell (p := ⟨g2, o2 + i, none⟩) hg2).trans s1
        cases bi with
        | false =>
          obtain rfl : k = 0 := hk0.out rfl
          have H := Lib.hid (hnext.out T' (.inl ⟨rfl, hI.out⟩))
          clear hnext hI hk0 hbel
          go_wp2_with fail
          go_roundg (n - (i + 1))
          case rel => exact ⟨i + 1, T', by omega, rfl, by go_num, hT, H.out, hR, HBE.out⟩
          case measure => omega
        | true =>
          clear hk0
          by_cases hq : k < q
          · have j2 : (k : Int) < (q : Int) := by omega
            have kl : k < l.length := by rw [← HQ.out]; exact hq
            obtain ⟨h, p, rfl, hh, _, hcl⟩ := HE.out (by omega)
            obtain ⟨e1, e2, e3⟩ := hcl k kl
            have E1 := (hbel.cell (p := ⟨h, p + k * 3, none⟩) hh).trans e1
            have E2 := (hbel.cell (p := ⟨h, p + k * 3 + 1, none⟩) hh).trans e2
            have E3 := (hbel.cell (p := ⟨h, p + k * 3 + 2, none⟩) hh).trans e3
            obtain ⟨_, _, _, z1, z2⟩ := har.out l[k] (List.getElem_mem kl)
            have hno : Hid (¬ (l[k].lo ≤ (c : Int) ∧ (c : Int) ≤ l[k].hi) → ∀ j, Au.has T' j ↔ Au.Lead3 d S c i l (k + 1) j) := fun hn j => by
              rw [hI.out j]
              constructor
              · rintro (h | ⟨h1, x, hx, h2, h3⟩)
                · exact .inl h
                · exact .inr ⟨h1, x, hx, by omega, h3⟩
              · rintro (h | ⟨h1, x, hx, h2, h3, h4, h5⟩)
                · exact .inl h
                · by_cases e : x = k
                  · subst e; exact absurd ⟨h3, h4⟩ hn
                  · exact .inr ⟨h1, x, hx, by omega, h3, h4, h5⟩
            obtain ⟨f, hf⟩ : ∃ f : Nat, l[k].to = (f : Int) := ⟨l[k].to.toNat, by omega⟩
            have hfl : f < n := by rw [HN.out]; omega
            have hfT : f < T'.length := by rw [hT.out]; exact hfl
            have hyes : Hid (l[k].lo ≤ (c : Int) ∧ (c : Int) ≤ l[k].hi → ∀ j, Au.has (T'.set f true) j ↔ Au.Lead3 d S c i l (k + 1) j) := fun hy j => by
              rw [Au.has_set hfT, hI.out j]
              constructor
              · rintro (rfl | h | ⟨h1, x, hx, h2, h3⟩)
                · exact .inr ⟨hasi.out.2 rfl, k, kl, by omega, hy.1, hy.2, by rw [hf]; exact Int.toNat_natCast _⟩
                · exact .inl h
                · exact .inr ⟨h1, x, hx, by omega, h3⟩
              · rintro (h | ⟨h1, x, hx, h2, h3, h4, h5⟩)
                · exact .inr (.inl h)
                · by_cases e : x = k
                  · subst e
                    left
                    rw [← h5, hf]
                    exact (Int.toNat_natCast _).symm
                  · exact .inr (.inr ⟨h1, x, hx, by omega, h3, h4, h5⟩)
            rw [hf] at E3
            have r2 := hR.out.cell hfT
            have j3 : (f : Int) < (n : Int) := by omega
            have j4 : (0 : Int) ≤ (f : Int) := by omega
            clear hcl e1 e2 e3 hf z1 z2 hI hbel
            generalize l[k].lo = lo at *
            generalize l[k].hi = hi' at *
            generalize T'[f] = bf at *
            have hgl : g < wr.heap.size := hR.out.lt
            have hR3 : Hid (RowB (wr.alloc (.cells #[.int .i64 lo, .int .i64 hi', .int .i64 f] 41)) g n T') := hR.out.other (Go.Deep.blk_alloc_lt _ _ _ hgl)
            have hB3 : Hid (Below w.heap.size w (wr.alloc (.cells #[.int .i64 lo, .int .i64 hi', .int .i64 f] 41))) := HBE.out.alloc HBE.out.size _
            have r3 := (cell_same (a := ⟨g, f, none⟩) (Go.Deep.blk_alloc_lt wr (.cells #[.int .i64 lo, .int .i64 hi', .int .i64 f] 41) g hgl)).trans r2
            have z3 := hR3.out.frozen f
            by_cases l1 : lo ≤ (c : Int)
            · by_cases l2 : (c : Int) ≤ hi'
              · have H := Lib.hid (hyes.out ⟨l1, l2⟩)
                have hR4 : Hid (RowB ((wr.setCell ⟨g, f, none⟩ (.bool true)).alloc (.cells #[.int .i64 lo, .int .i64 hi', .int .i64 f] 41)) g n (T'.set f true)) := (hR.out.set f true).other (Go.Deep.blk_alloc_lt _ _ _ (hR.out.set f true).lt)
                have hB4 : Hid (Below w.heap.size w ((wr.setCell ⟨g, f, none⟩ (.bool true)).alloc (.cells #[.int .i64 lo, .int .i64 hi', .int .i64 f] 41))) := by
                  have h := HBE.out.setCell (p := ⟨g, f, none⟩) hgB (.bool true)
                  exact h.alloc h.size _
                have hT4 : Hid ((T'.set f true).length = n) := by show _ = _; rw [List.length_set]; exact hT.out
                clear hyes hno hnext
                go_wp2_with fail
                go_roundg (q - (k + 1))
                case rel => exact ⟨k + 1, _, by omega, rfl, by go_num, (fun h => by cases h), hT4, H.out, hR4, hB4.out⟩
                case measure => omega
              · have H := Lib.hid (hno.out (fun e => l2 e.2))
                clear hyes hno hnext
                go_wp2_with fail
                go_roundg (q - (k + 1))
                case rel => exact ⟨k + 1, T', by omega, rfl, by go_num, (fun h => by cases h), hT, H.out, hR3, hB3.out⟩
                case measure => omega
            · have H := Lib.hid (hno.out (fun e => l1 e.1))
              clear hyes hno hnext
              go_wp2_with fail
              go_roundg (q - (k + 1))
              case rel => exact ⟨k + 1, T', by omega, rfl, by go_num, (fun h => by cases h), hT, H.out, hR3, hB3.out⟩
              case measure => omega
          · obtain rfl : k = q := by omega
            have H := Lib.hid (hnext.out T' (.inr hI.out))
            clear hnext hI hbel
            go_wp2_with fail
            go_roundg (n - (i + 1))
            case rel => exact ⟨i + 1, T', by omega, rfl, by go_num, hT, H.out, hR, HBE.out⟩
            case measure => omega
    · obtain rfl : i = n := by omega
      have HQ2 := Lib.hid (HSP.out wr g T hbel hR.out (by rw [hT.out, HN.out]))
      have HO := Lib.hid (hO.out T hT.out hI.out)
      clear hI hR hbel HSP hO
      go_wp2_with fail
      refine HQ2.out.mono ?_
      rintro e w2 ⟨g3, cap4, rfl, hg3, hcp4, hrow, hb⟩
      have HB2 : Hid (Below w.heap.size w w2) := chain HBE.out hb
      have HW2 := Lib.hid hrow
      have hle : g ≤ g3 := Nat.le_trans (by have := HBE.out.size; omega) hg3
      clear hb hrow
      go_wp2_with fail
      go_ret
      exact ⟨g3, cap4, rfl, by omega, hcp4, by rw [← HO.out]; exact HW2.out, HB2.out⟩

end Go.Proofs.Ytdcofdndkpmpaaa

/-
  The given dead: from which states nothing is taken.
-/
namespace Go.Proofs.Ytdcofdndkpmpaaa
open Go.RowKit
namespace Au
/-- The states from which nothing is taken. -/
noncomputable def deadL (d : List St) : List Bool := setOf d.length (fun i => Dead (ofL d) (some i))
theorem look_own {n : Nat} {c : Int} {l : List Arc} (h : Row n c l) (k : Nat) (hk : k < l.length) : look l l[k].lo = some l[k].to := by
  induction l generalizing k with
  | nil => simp at hk
  | cons a r ih =>
    have ht : Row n c r := ⟨fun j hj => by have := h.1 (j + 1) (by simp; omega); simpa using this, fun j hj => by have := h.2 (j + 1) (by simp; omega); simpa using this⟩
    cases k with
    | zero =>
      have := h.1 0 (by simp)
      simp only [List.getElem_cons_zero] at this ⊢
      simp only [look]
      rw [if_pos (by omega)]
    | succ k =>
      have hk' : k < r.length := by simpa using hk
      simp only [List.getElem_cons_succ]
      have hlt : a.hi < r[k].lo := by
        have hrow : Row n c (a :: r) := h
        -- arcs rise
        have rise : ∀ j (hj : j < r.length), a.hi < r[j].lo := by
          intro j
          induction j with
          | zero => intro hj; have := h.2 0 (by simp; omega); simpa using this
          | succ j ihj =>
            intro hj
            have h1 := ihj (by omega)
            have h2 := h.2 (j + 1) (by simp; omega)
            have h3 := h.1 (j + 1) (by simp; omega)
            simp only [List.getElem_cons_succ] at h2 h3
            omega
        exact rise k hk'
      simp only [look]
      rw [if_neg (by omega)]
      exact ih ht k hk'
theorem look_mem {l : List Arc} {x t : Int} (h : look l x = some t) : ∃ k, ∃ hk : k < l.length, l[k].to = t := by
  induction l with
  | nil => cases h
  | cons a r ih =>
    simp only [look] at h
    split at h
    · cases h; exact ⟨0, by simp, rfl⟩
    · obtain ⟨k, hk, e⟩ := ih h
      exact ⟨k + 1, by simp; omega, by simpa using e⟩
/-- What is known of a set of states that may be dead. -/
structure Low (d : List St) (T : List Bool) : Prop where
  len : T.length = d.length
  fin : ∀ i (h : i < T.length), T[i] = true → (ofL d).fin i = false
  alive : ∀ i (h : i < T.length), T[i] = false → ¬ Dead (ofL d) (some i)
def Sunk (d : List St) (T : List Bool) (i : Nat) : Prop := has T i → ∀ s a, d[i]? = some s → a ∈ s.arcs → has T a.to.toNat
theorem Low.done {d : List St} {T : List Bool} (h : Low d T) (hs : ∀ i, i < d.length → Sunk d T i) : T = deadL d := by
  have hd : ∀ w i, has T i → (ofL d).acc (some i) w = false := by
    intro w
    induction w with
    | nil =>
      intro i hi
      have hl := has_lt hi
      exact h.fin i hl ((has_get hl).1 hi)
    | cons c w ih =>
      intro i hi
      rw [acc_cons]
      have hl := has_lt hi
      rw [h.len] at hl
      have he : (ofL d).step i c = (look d[i].arcs c).map Int.toNat := by simp only [ofL, List.getElem?_eq_getElem hl]
      rw [he]
      cases hk : look d[i].arcs (c : Int) with
      | none => exact acc_none _ _
      | some t =>
        obtain ⟨k, hk2, rfl⟩ := look_mem hk
        exact ih _ (hs i hl hi _ _ (List.getElem?_eq_getElem hl) (List.getElem_mem hk2))
  apply set_ext (by rw [h.len, deadL, setOf_length])
  intro i
  rw [deadL, has_setOf]
  constructor
  · intro hi
    have hl := has_lt hi
    rw [h.len] at hl
    exact ⟨hl, fun w => hd w i hi⟩
  · rintro ⟨hl, hdd⟩
    have hl' : i < T.length := by rw [h.len]; exact hl
    cases hb : T[i] with
    | true => exact (has_get hl').2 hb
    | false => exact absurd hdd (h.alive i hl' hb)
/-- A state that leads to one that lives. -/
theorem Low.drop {d : List St} {T : List Bool} (h : Low d T) (hr : ∀ i (h : i < d.length), Row d.length 256 d[i].arcs) {i k f : Nat} (hi : i < d.length) (hk : k < d[i].arcs.length) (hf : d[i].arcs[k].to.toNat = f) (hfl : f < T.length) (hb : T[f] = false) : Low d (T.set i false) := by
  have hal : ¬ Dead (ofL d) (some i) := by
    intro hd
    apply h.alive f hfl hb
    intro w
    have h1 := hd (d[i].arcs[k].lo.toNat :: w)
    rw [acc_cons] at h1
    have hrow := (hr i hi).1 k hk
    have he : (ofL d).step i d[i].arcs[k].lo.toNat = some f := by
      simp only [ofL, List.getElem?_eq_getElem hi]
      rw [show ((d[i].arcs[k].lo.toNat : Nat) : Int) = d[i].arcs[k].lo by omega, look_own (hr i hi) k hk]
      simp only [Option.map_some, hf]
    rw [he] at h1
    exact h1
  refine ⟨by rw [List.length_set, h.len], fun j hj hjb => ?_, fun j hj hjb => ?_⟩
  · rw [List.getElem_set] at hjb
    rw [List.length_set] at hj
    split at hjb
    · cases hjb
    · exact h.fin j hj hjb
  · rw [List.getElem_set] at hjb
    rw [List.length_set] at hj
    split at hjb
    · rename_i e
      rw [← e]
      exact hal
    · exact h.alive j hj hjb
def Pass4 (d : List St) (T T' : List Bool) (m : Bool) (i : Nat) : Prop := (m = false ∧ T' = T ∧ ∀ j, j < i → Sunk d T j) ∨ (m = true ∧ T'.count true < T.count true)
def Pass5 (d : List St) (T T' : List Bool) (m : Bool) (i k : Nat) (l : List Arc) : Prop := (m = false ∧ T' = T ∧ (∀ j, j < i → Sunk d T j) ∧ ∀ j (h : j < l.length), j < k → has T l[j].to.toNat) ∨ (m = true ∧ T'.count true < T.count true)
def left2 : Bool → List Bool → Nat
  | true, T => T.count true + 1
  | false, _ => 0
theorem count_drop_lt {T : List Bool} {f : Nat} (hf : f < T.length) (h : T[f] = true) : (T.set f false).count true < T.count true := by
  have h1 := List.count_set (a := false) (b := true) hf
  have h2 : 0 < T.count true := List.count_pos_iff.2 (h ▸ List.getElem_mem hf)
  rw [h1, h]
  simp
  omega
end Au

set_option maxRecDepth 100000 in
set_option maxHeartbeats 4000000 in
theorem dead_any (F : Nat → Prop) (w : World) (u : Value) (d : List Au.St) (hu : StS F w u d) (h0 : 0 < d.length) (hbig : d.length ≤ 1099511627776) (hr : ∀ i (h : i < d.length), Au.Row d.length 256 d[i].arcs) :
    Calls Try.prog 42 #[u] w fun e w' => ∃ g, e = .returned (.slice (some ⟨g, 0, none⟩) d.length d.length) ∧ w.heap.size ≤ g ∧ RowB w' g d.length (Au.deadL d) ∧ Below w.heap.size w w' := by
  obtain ⟨b, cap', rfl, hd1, hd2, hd⟩ := hu
  obtain ⟨n, hn⟩ : ∃ n, n = d.length := ⟨_, rfl⟩
  have HD := Lib.hid hd
  have HN := Lib.hid hn
  have HRW := Lib.hid hr
  have hmk := run_make_row' (P := Try.prog) 62 4 (.bool false) 1 Try.underlying62 Try.infoBo rfl .i64 .i64 n (by omega) (by omega)
  have HR0 := Lib.hid (row_made w n)
  have HB0 : Hid (Below w.heap.size w (w.alloc (.cells (madeCells #[.bool false] n) 4))) := (Below.refl _ _).alloc (Nat.le_refl _) _
  rw [← hn] at hbig h0 ⊢
  clear hd hd1 hn hr
  go_enter Try.func42, Try.ntmps42
  go_wp2_with fail
  generalize w.alloc (.cells (madeCells #[.bool false] n) 4) = w1 at *
  clear hmk
  obtain ⟨g, hg⟩ : ∃ g, w.heap.size = g := ⟨_, rfl⟩
  have hgB : w.heap.size ≤ g := by omega
  rw [hg] at HR0 ⊢
  go_loopg [4] n (fun gg vi wx => ∃ (i : Nat) (T : List Bool), i ≤ n ∧ gg = n - i ∧ vi = .int .i64 i ∧ Hid (T.length = n) ∧ Hid (∀ j (h : j < T.length), j < i → T[j] = !(Au.ofL d).fin j) ∧ Hid (RowB wx g n T) ∧ Below w.heap.size w wx)
  case atStart => exact ⟨0, List.replicate n false, Nat.zero_le _, rfl, rfl, (by show _ = _; simp), (fun j _ h => by omega), HR0, HB0.out⟩
  case round =>
    obtain ⟨i, T, hi, rfl, rfl, hT, hI, hR, hbel⟩ := hrel
    have HBE := Lib.hid hbel
    by_cases hin : i < n
    · have j1 : (i : Int) < (n : Int) := by omega
      have hid : i < d.length := by rw [← HN.out]; exact hin
      have hiT : i < T.length := by rw [hT.out]; exact hin
      obtain ⟨g', o', rfl, hg', _, hcd⟩ := HD.out (by omega)
      have d1 := (hbel.cell (p := ⟨g', o' + i * 2, none⟩) hg').trans (hcd i hid).1
      have hfn : Hid ((Au.ofL d).fin i = d[i].fin) := by show _ = _; simp only [Au.ofL, List.getElem?_eq_getElem hid]
      have r1 := hR.out.cell hiT
      have z1 := hR.out.frozen i
      clear hcd hbel
      generalize d[i].fin = b at *
      have hI2 : Hid (∀ j (h : j < (T.set i (!b)).length), j < i + 1 → (T.set i (!b))[j] = !(Au.ofL d).fin j) := fun j hj hji => by
        rw [List.length_set] at hj
        rw [List.getElem_set]
        by_cases e : i = j
        · subst e
          rw [if_pos rfl, hfn.out]
        · rw [if_neg e]
          exact hI.out j hj (by omega)
      have hT2 : Hid ((T.set i (!b)).length = n) := by show _ = _; rw [List.length_set]; exact hT.out
      have hR2 : Hid (RowB (wr.setCell ⟨g, i, none⟩ (.bool (!b))) g n (T.set i (!b))) := hR.out.set i (!b)
      have hB2 : Hid (Below w.heap.size w (wr.setCell ⟨g, i, none⟩ (.bool (!b)))) := HBE.out.setCell (p := ⟨g, i, none⟩) hgB _
      generalize T[i] = bt at *
      clear hI hfn
      cases b
      all_goals
        go_wp2_with fail
        go_roundg (n - (i + 1))
        case rel => exact ⟨i + 1, _, by omega, rfl, by go_num, hT2, hI2, hR2, hB2.out⟩
        case measure => omega
    · obtain rfl : i = n := by omega
      have hL : Hid (Au.Low d T) := ⟨by rw [hT.out, HN.out], fun j hj hb => by
        rw [hI.out j hj (by rw [← hT.out]; exact hj)] at hb
        simpa using hb, fun j hj hb hd => by
        have h1 := hd []
        rw [Au.acc_nil] at h1
        rw [hI.out j hj (by rw [← hT.out]; exact hj), h1] at hb
        cases hb⟩
      clear hT hI hbel
      go_wp2_with fail
      go_loopg [5] (Au.left2 true T) (fun gg vm wx => ∃ (m : Bool) (T : List Bool), gg = Au.left2 m T ∧ vm = .bool m ∧ Hid (Au.Low d T) ∧ Hid (m = false → ∀ j, j < d.length → Au.Sunk d T j) ∧ Hid (RowB wx g i T) ∧ Below w.heap.size w wx)
      case atStart => exact ⟨true, T, rfl, rfl, hL, (fun h => by cases h), hR, HBE.out⟩
      case round =>
        clear hL hR HBE
        obtain ⟨m, T, rfl, rfl, hM, hC, hR, hbel⟩ := hrel
        have HBE := Lib.hid hbel
        clear hbel
        cases m with
        | false =>
          have hfin : T = Au.deadL d := hM.out.done (hC.out rfl)
          have HF : Hid (RowB wr g i (Au.deadL d)) := by rw [← hfin]; exact hR
          clear hM hC hR hfin
          go_wp2_with fail
          go_ret
          exact ⟨g, rfl, hgB, HF.out, HBE.out⟩
        | true =>
          clear hC
          clear hin hi
          generalize i = n at *
          go_wp2_with fail
          go_loopg [5, 6] n (fun gg vm vi wx => ∃ (i : Nat) (m : Bool) (T' : List Bool), i ≤ n ∧ gg = n - i ∧ vm = .bool m ∧ vi = .int .i64 i ∧ Hid (Au.Low d T') ∧ Hid (Au.Pass4 d T T' m i) ∧ Hid (RowB wx g n T') ∧ Below w.heap.size w wx)
          case atStart => exact ⟨0, false, T, Nat.zero_le _, rfl, rfl, rfl, hM, .inl ⟨rfl, rfl, fun j h => by omega⟩, hR, HBE.out⟩
          case round =>
            obtain ⟨i, m, T', hi, rfl, rfl, rfl, hM', hP, hR', hbel⟩ := hrel
            have HBE2 := Lib.hid hbel
            by_cases hin : i < n
            · have j1 : (i : Int) < (n : Int) := by omega
              have hid : i < d.length := by rw [← HN.out]; exact hin
              obtain ⟨g', o', rfl, hg', _, hcd⟩ := HD.out (by omega)
              obtain ⟨_, va, d1, hva⟩ := hcd i hid
              have hdi : Hid (d[i]? = some d[i]) := List.getElem?_eq_getElem hid
              have hrow := Lib.hid (HRW.out i hid)
              have hdrop : Hid (∀ T', Au.Low d T' → ∀ k f, ∀ (hk : k < d[i].arcs.length), d[i].arcs[k].to.toNat = f → ∀ (hf : f < T'.length), T'[f] = false → Au.Low d (T'.set i false)) := fun T' hT k f hk hf hfl hb => hT.drop HRW.out hid hk hf hfl hb
              clear hcd hbel
              generalize d[i] = s at *
              obtain ⟨sf, l⟩ := s
              dsimp only at hva hrow hdrop
              obtain ⟨a2, cap3, rfl, he1, he2, he⟩ := hva
              obtain ⟨q, hq⟩ : ∃ q, q = l.length := ⟨_, rfl⟩
              have HE := Lib.hid he
              have HQ := Lib.hid hq
              have hq2 : q ≤ 9223372036854775807 := by omega
              rw [← hq] at d1
              clear he he1 hq
              go_wp2_with fail
              go_loopg [5, 7] q (fun gg vm vk wx => ∃ (k : Nat) (m : Bool) (T' : List Bool), k ≤ q ∧ gg = q - k ∧ vm = .bool m ∧ vk = .int .i64 k ∧ Hid (Au.Low d T') ∧ Hid (Au.Pass5 d T T' m i k l) ∧ Hid (RowB wx g n T') ∧ Below w.heap.size w wx)
              case atStart =>
                refine ⟨0, m, T', Nat.zero_le _, rfl, rfl, rfl, hM', ?_, hR', HBE2.out⟩
                rcases hP.out with ⟨h1, h2, h3⟩ | h
                · exact .inl ⟨h1, h2, h3, fun j _ h => by omega⟩
                · exact .inr h
              case round =>
                clear hM' hP hR' HBE2
                obtain ⟨k, m, T', hk, rfl, rfl, rfl, hM', hP, hR', hbel⟩ := hrel
                have HBE2 := Lib.hid hbel
                have D1 := (hbel.cell (p := ⟨g', o' + i * 2 + 1, none⟩) hg').trans d1
                have hiT : i < T'.length := by rw [hM'.out.len]; exact hid
                have r1 := hR'.out.cell hiT
                have hasi := Lib.hid (Au.has_get hiT)
                by_cases hq : k < q
                · have j2 : (k : Int) < (q : Int) := by omega
                  have kl : k < l.length := by rw [← HQ.out]; exact hq
                  obtain ⟨h, p, rfl, hh, _, hcl⟩ := HE.out (by omega)
                  have e1 := (hbel.cell (p := ⟨h, p + k * 3 + 2, none⟩) hh).trans (hcl k kl).2.2
                  have hz := hrow.out.1 k kl
                  obtain ⟨f, hf⟩ : ∃ f : Nat, l[k].to = (f : Int) := ⟨l[k].to.toNat, by omega⟩
                  have hfl : f < d.length := by omega
                  have hfT : f < T'.length := by rw [hM'.out.len]; exact hfl
                  have r2 := hR'.out.cell hfT
                  have z1 := hR'.out.frozen i
                  have j3 : (f : Int) < (n : Int) := by rw [HN.out]; omega
                  have j4 : (0 : Int) ≤ (f : Int) := by omega
                  have hft : Hid (l[k].to.toNat = f) := by show _ = _; rw [hf]; exact Int.toNat_natCast f
                  rw [hf] at e1
                  have hgrow : Hid (T'[f] = false → Au.Low d (T'.set i false)) := fun hb => hdrop.out T' hM'.out k f kl hft.out hfT hb
                  have hcnt : Hid (T'[i] = true → (T'.set i false).count true < T'.count true) := fun hb => Au.count_drop_lt hiT hb
                  have hRow : Hid (RowB (wr.setCell ⟨g, i, none⟩ (.bool false)) g n (T'.set i false)) := hR'.out.set i false
                  have hBel : Hid (Below w.heap.size w (wr.setCell ⟨g, i, none⟩ (.bool false))) := hbel.setCell (p := ⟨g, i, none⟩) hgB _
                  have hstay : Hid (T'[f] = true → Au.Pass5 d T T' m i (k + 1) l) := fun hb => by
                    rcases hP.out with ⟨h1, h2, h3, h4⟩ | h
                    · refine .inl ⟨h1, h2, h3, fun j hj hjk => ?_⟩
                      by_cases e : j = k
                      · subst e
                        rw [hft.out, ← h2]
                        exact (Au.has_get hfT).2 hb
                      · exact h4 j hj (by omega)
                    · exact .inr h
                  have hless : Hid ((T'.set i false).count true < T'.count true → Au.Pass5 d T (T'.set i false) true i (k + 1) l) := fun hl => by
                    rcases hP.out with ⟨_, h2, _, _⟩ | ⟨_, h2⟩
                    · exact .inr ⟨rfl, by rw [h2] at hl ⊢; exact hl⟩
                    · exact .inr ⟨rfl, by omega⟩
                  have hend : Hid (T'[i] = false → Au.Pass4 d T T' m (i + 1)) := fun hb => by
                    rcases hP.out with ⟨h1, h2, h3, h4⟩ | h
                    · refine .inl ⟨h1, h2, fun j hj => ?_⟩
                      by_cases e : j = i
                      · subst e
                        intro hh
                        rw [← h2, hasi.out, hb] at hh
                        cases hh
                      · exact h3 j (by omega)
                    · exact .inr h
                  clear hP hcl hf hz hbel
                  generalize T'[i] = bi at *
                  generalize T'[f] = bf at *
                  cases bi
                  · have H := Lib.hid (hend.out rfl)
                    clear hend hless hstay hcnt hgrow
                    go_wp2_with fail
                    go_roundg (n - (i + 1))
                    case rel => exact ⟨i + 1, m, T', by omega, rfl, rfl, by go_num, hM', H.out, hR', HBE2.out⟩
                    case measure => omega
                  · cases bf
                    · have H1 := Lib.hid (hgrow.out rfl)
                      have H2 := Lib.hid (hless.out (hcnt.out rfl))
                      clear hend hless hstay hcnt hgrow
                      go_wp2_with fail
                      go_roundg (q - (k + 1))
                      case rel => exact ⟨k + 1, true, _, by omega, rfl, rfl, by go_num, H1.out, H2.out, hRow, hBel.out⟩
                      case measure => omega
                    · have H := Lib.hid (hstay.out rfl)
                      clear hend hless hstay hcnt hgrow
                      go_wp2_with fail
                      go_roundg (q - (k + 1))
                      case rel => exact ⟨k + 1, m, T', by omega, rfl, rfl, by go_num, hM', H.out, hR', HBE2.out⟩
                      case measure => omega
                · obtain rfl : k = q := by omega
                  have hend : Hid (Au.Pass4 d T T' m (i + 1)) := by
                    rcases hP.out with ⟨h1, h2, h3, h4⟩ | h
                    · refine .inl ⟨h1, h2, fun j hj => ?_⟩
                      by_cases e : j = i
                      · subst e
                        intro _ s a hs ha
                        rw [hdi.out] at hs
                        cases hs
                        obtain ⟨x, hx, rfl⟩ := List.getElem_of_mem ha
                        exact h4 x hx (by rw [HQ.out]; exact hx)
                      · exact h3 j (by omega)
                    · exact .inr h
                  clear hP hbel
                  generalize T'[i] = bi at *
                  cases bi
                  all_goals
                    go_wp2_with fail
                    go_roundg (n - (i + 1))
                    case rel => exact ⟨i + 1, m, T', by omega, rfl, rfl, by go_num, hM', hend.out, hR', HBE2.out⟩
                    case measure => omega
            · obtain rfl : i = n := by omega
              have hC2 : Hid (m = false → ∀ j, j < d.length → Au.Sunk d T' j) := fun hm => by
                rcases hP.out with ⟨_, h2, h3⟩ | ⟨h1, _⟩
                · rw [h2]
                  intro j hj
                  exact h3 j (by rw [HN.out]; exact hj)
                · rw [h1] at hm; cases hm
              have hless : Au.left2 m T' < Au.left2 true T := by
                rcases hP.out with ⟨h1, _⟩ | ⟨h1, h2⟩
                · subst h1
                  show 0 < _ + 1
                  omega
                · subst h1
                  show _ + 1 < _ + 1
                  omega
              have HLS := Lib.hid hless
              clear hP hbel hless
              go_wp2_with fail
              go_roundg (Au.left2 m T')
              case rel => exact ⟨m, T', rfl, rfl, hM', hC2, hR', HBE2.out⟩
              case measure => exact HLS.out

end Go.Proofs.Ytdcofdndkpmpaaa

/-
  The given Step.
-/
namespace Go.Proofs.Ytdcofdndkpmpaaa
open Go.RowKit

theorem Au.look_drop (l : List Au.Arc) (k : Nat) (hk : k < l.length) (c : Int) : Au.look (l.drop k) c = if l[k].lo ≤ c ∧ c ≤ l[k].hi then some l[k].to else Au.look (l.drop (k + 1)) c := by
  rw [List.drop_eq_getElem_cons hk]
  rfl

set_option maxRecDepth 100000 in
set_option maxHeartbeats 2000000 in
theorem stepR_any (F : Nat → Prop) (w : World) (v : Value) (d : List Au.St) (s c : Int) (hv : StS F w v d) :
    Calls Try.prog 14 #[v, .int .i64 s, .int .i64 c] w fun e w' => e = .returned (.int .i64 (Au.step d s c)) ∧ Below w.heap.size w w' := by
  obtain ⟨a, cap, rfl, hc1, hc2, hc⟩ := hv
  by_cases hs : s < 0
  · have hr : Au.step d s c = -1 := by unfold Au.step; rw [if_pos (.inl hs)]
    rw [hr]
    clear hr hc
    go_enter Try.func14, Try.ntmps14
    go_wp2_with fail
    go_ret
    exact ⟨rfl, Below.refl _ _⟩
  by_cases hs2 : (d.length : Int) ≤ s
  · have hr : Au.step d s c = -1 := by unfold Au.step; rw [if_pos (.inr hs2)]
    rw [hr]
    clear hr hc
    go_enter Try.func14, Try.ntmps14
    go_wp2_with fail
    go_ret
    exact ⟨rfl, Below.refl _ _⟩
  obtain ⟨i, rfl⟩ : ∃ i : Nat, s = (i : Int) := ⟨s.toNat, by omega⟩
  have hi : i < d.length := by omega
  obtain ⟨g, o, rfl, hg, hF, hcl⟩ := hc (by omega)
  obtain ⟨_, va, c1, hva⟩ := hcl i hi
  have hr : Au.step d i c = (Au.look d[i].arcs c).getD (-1) := by
    unfold Au.step
    rw [if_neg (by omega), Int.toNat_natCast, List.getElem?_eq_getElem hi]
  rw [hr]
  generalize d[i].arcs = l at *
  obtain ⟨a2, cap2, rfl, hd1, hd2, hd⟩ := hva
  obtain ⟨m, hm⟩ : ∃ m, m = l.length := ⟨_, rfl⟩
  obtain ⟨r, hr2⟩ : ∃ r, (Au.look l c).getD (-1) = r := ⟨_, rfl⟩
  have HM := Lib.hid hm
  have HR := Lib.hid hr2
  have HD := Lib.hid hd
  rw [hr2]
  rw [← hm] at c1
  have m2 : m ≤ 9223372036854775807 := by omega
  have i1 : (i : Int) < (d.length : Int) := by omega
  clear hr hr2 hcl hc hm hd hd1 hd2
  go_enter Try.func14, Try.ntmps14
  go_wp2_with fail
  go_loopg [7] m (fun gg vk wx => ∃ k : Nat, k ≤ m ∧ gg = m - k ∧ vk = .int .i64 k ∧ Hid ((Au.look (l.drop k) c).getD (-1) = r) ∧ Below w.heap.size w wx)
  case atStart => exact ⟨0, Nat.zero_le _, rfl, rfl, HR.out, Below.refl _ _⟩
  case round =>
    obtain ⟨k, hk, rfl, rfl, hS, hbel⟩ := hrel
    have c2 := (hbel.cell (p := ⟨g, o + i * 2 + 1, none⟩) hg).trans c1
    by_cases hkm : k < m
    · have kl : k < l.length := by rw [← HM.out]; exact hkm
      obtain ⟨g2, o2, rfl, hg2, _, hcl2⟩ := HD.out (by omega)
      obtain ⟨d1, d2, d3⟩ := hcl2 k kl
      have e1 := (hbel.cell (p := ⟨g2, o2 + k * 3, none⟩) hg2).trans d1
      have e2 := (hbel.cell (p := ⟨g2, o2 + k * 3 + 1, none⟩) hg2).trans d2
      have e3 := (hbel.cell (p := ⟨g2, o2 + k * 3 + 2, none⟩) hg2).trans d3
      have hL := hS.out
      rw [Au.look_drop l k kl] at hL
      have HL := Lib.hid hL
      have j1 : (k : Int) < (m : Int) := by omega
      clear hL hcl2 d1 d2 d3 hS
      generalize l[k] = x at *
      obtain ⟨lo, hi, to⟩ := x
      dsimp only at e1 e2 e3 HL
      have HBE := Lib.hid hbel
      clear hbel
      by_cases l1 : lo ≤ c
      · by_cases l2 : c ≤ hi
        · have hr : to = r := by
            have h := HL.out
            rw [if_pos ⟨l1, l2⟩] at h
            exact h
          subst hr
          go_wp2_with fail
          go_ret
          exact ⟨rfl, HBE.out.alloc HBE.out.size _⟩
        · have hst : Hid ((Au.look (l.drop (k + 1)) c).getD (-1) = r) := by
            have h := HL.out
            rw [if_neg (fun e => l2 e.2)] at h
            exact h
          clear HL
          go_wp2_with fail
          go_roundg (m - (k + 1))
          case rel => exact ⟨k + 1, by omega, rfl, by go_num, hst, HBE.out.alloc HBE.out.size _⟩
          case measure => omega
      · have hst : Hid ((Au.look (l.drop (k + 1)) c).getD (-1) = r) := by
          have h := HL.out
          rw [if_neg (fun e => l1 e.1)] at h
          exact h
        clear HL
        go_wp2_with fail
        go_roundg (m - (k + 1))
        case rel => exact ⟨k + 1, by omega, rfl, by go_num, hst, HBE.out.alloc HBE.out.size _⟩
        case measure => omega
    · obtain rfl : k = m := by omega
      have hr : -1 = r := by
        have h := hS.out
        rw [List.drop_of_length_le (by rw [← HM.out]; exact Nat.le_refl _)] at h
        exact h
      subst hr
      have HBE := Lib.hid hbel
      clear hS hbel
      go_wp2_with fail
      go_ret
      exact ⟨rfl, HBE.out⟩

end Go.Proofs.Ytdcofdndkpmpaaa

/-
  The given Check.
-/
namespace Go.Proofs.Ytdcofdndkpmpaaa
open Go.RowKit
namespace Au
/-- Is arc k of a row as 8.1 asks? -/
def okArc (n : Nat) (l : List Arc) (k : Nat) : Prop := ∀ h : k < l.length, 0 ≤ l[k].lo ∧ l[k].hi ≤ 255 ∧ l[k].lo ≤ l[k].hi ∧ 0 ≤ l[k].to ∧ l[k].to < n ∧ (0 < k → l[k - 1].hi < l[k].lo)
/-- Are all arcs of a state? -/
def okAt (n : Nat) (d : List St) (i : Nat) : Prop := ∀ s, d[i]? = some s → ∀ k, okArc n s.arcs k
open Classical in
/-- What 8.1 answers of a list of states. -/
noncomputable def check (d : List St) : Int := if d.length = 0 then 1 else if 20000 < d.length then 8 else if ∀ i, i < d.length → okAt d.length d i then 0 else 3
theorem okAt_of {n : Nat} {d : List St} {i : Nat} (h : i < d.length) : okAt n d i ↔ ∀ k, okArc n d[i].arcs k := by
  constructor
  · intro g k
    exact g d[i] (List.getElem?_eq_getElem h) k
  · intro g s hs k
    rw [List.getElem?_eq_getElem h] at hs
    cases hs
    exact g k
theorem row_iff (n : Nat) (l : List Arc) : (∀ k, okArc n l k) ↔ Row n 256 l := by
  constructor
  · intro h
    refine ⟨fun k hk => ?_, fun k hk => ?_⟩
    · have := h k hk
      omega
    · have := (h (k + 1) hk).2.2.2.2.2 (by omega)
      simpa using this
  · intro h k hk
    have h1 := h.1 k hk
    refine ⟨by omega, by omega, by omega, by omega, by omega, fun h0 => ?_⟩
    have := h.2 (k - 1) (by omega)
    simp only [show k - 1 + 1 = k by omega] at this
    exact this
theorem check_iff (d : List St) : check d = 0 ↔ Fits d := by
  unfold check
  split
  · rename_i h
    constructor
    · intro e; exact absurd e (by decide)
    · intro f; have := f.pos; omega
  · split
    · rename_i h
      constructor
      · intro e; exact absurd e (by decide)
      · intro f; have := f.top; omega
    · split
      · rename_i h0 h1 h
        exact ⟨fun _ => ⟨by omega, by omega, fun i hi => (row_iff _ _).1 ((okAt_of hi).1 (h i hi))⟩, fun _ => rfl⟩
      · rename_i h0 h1 h
        constructor
        · intro e; exact absurd e (by decide)
        · intro f; exact absurd (fun i hi => (okAt_of hi).2 ((row_iff _ _).2 (f.row i hi))) h
end Au

set_option maxRecDepth 100000 in
set_option maxHeartbeats 4000000 in
theorem checkR_any (F : Nat → Prop) (w : World) (v : Value) (d : List Au.St) (hv : StS F w v d) :
    Calls Try.prog 10 #[v] w fun e w' => e = .returned (.int .i64 (Au.check d)) ∧ Below w.heap.size w w' := by
  obtain ⟨a, cap, rfl, hc1, hc2, hc⟩ := hv
  by_cases h0 : d.length = 0
  · have hr : Au.check d = 1 := by unfold Au.check; rw [if_pos h0]
    rw [hr]
    have i0 : ((d.length : Int) == 0) = true := beq_iff_eq.2 (by omega)
    clear hr hc h0
    go_enter Try.func10, Try.ntmps10
    go_wp2_with fail
    go_ret
    exact ⟨rfl, Below.refl _ _⟩
  have i0 : ((d.length : Int) == 0) = false := beq_eq_false_iff_ne.2 (by omega)
  by_cases h1 : 20000 < d.length
  · have hr : Au.check d = 8 := by unfold Au.check; rw [if_neg h0, if_pos h1]
    rw [hr]
    have i1 : (20000 : Int) < (d.length : Int) := by omega
    clear hr hc h0 h1
    go_enter Try.func10, Try.ntmps10
    go_wp2_with fail
    go_ret
    exact ⟨rfl, Below.refl _ _⟩
  have i1 : ¬ (20000 : Int) < (d.length : Int) := by omega
  obtain ⟨g, o, rfl, hg, hF, hcl⟩ := hc (by omega)
  have hgood : (∀ i, i < d.length → Au.okAt d.length d i) → Au.check d = 0 := fun h => by unfold Au.check; rw [if_neg h0, if_neg h1, if_pos h]
  have hbad : ∀ i, i < d.length → ¬ Au.okAt d.length d i → Au.check d = 3 := fun i hi h => by unfold Au.check; rw [if_neg h0, if_neg h1, if_neg (fun e => h (e i hi))]
  generalize Au.check d = r at *
  obtain ⟨n, hn⟩ : ∃ n, n = d.length := ⟨_, rfl⟩
  have hn2 : n ≤ 20000 := by omega
  rw [← hn] at hgood hbad
  have HN := Lib.hid hn
  have HC := Lib.hid hcl
  have HG := Lib.hid hgood
  have HB := Lib.hid hbad
  rw [← hn] at i0 i1 ⊢
  clear hc hcl hgood hbad h0 h1 hn hc1
  go_enter Try.func10, Try.ntmps10
  go_wp2_with fail
  go_loopg [3] n (fun gg vi wx => ∃ i : Nat, i ≤ n ∧ gg = n - i ∧ vi = .int .i64 i ∧ Hid (∀ j, j < i → Au.okAt n d j) ∧ Below w.heap.size w wx)
  case atStart => exact ⟨0, Nat.zero_le _, rfl, rfl, fun j h => by omega, Below.refl _ _⟩
  case round =>
    obtain ⟨i, hi, rfl, rfl, hS, hbel⟩ := hrel
    by_cases hin : i < n
    · have j1 : (i : Int) < (n : Int) := by omega
      have hid : i < d.length := by rw [← HN.out]; exact hin
      obtain ⟨_, va, c1, hva⟩ := HC.out i hid
      have HBi : Hid (∀ k, ¬ Au.okArc n d[i].arcs k → r = 3) := fun k h => HB.out i hin (fun e => h ((Au.okAt_of hid).1 e k))
      have hst : Hid ((∀ k, Au.okArc n d[i].arcs k) → ∀ j, j < i + 1 → Au.okAt n d j) := fun h j hji => by
        by_cases e : j = i
        · subst e; exact (Au.okAt_of hid).2 h
        · exact hS.out j (by omega)
      clear hS
      generalize d[i].arcs = l at *
      obtain ⟨a2, cap2, rfl, hd1, hd2, hd⟩ := hva
      obtain ⟨m, hm⟩ : ∃ m, m = l.length := ⟨_, rfl⟩
      have HM := Lib.hid hm
      have HD := Lib.hid hd
      have HBE := Lib.hid hbel
      rw [← hm] at c1
      have m2 : m ≤ 9223372036854775807 := by omega
      clear hd hd1 hm hbel
      go_wp2_with fail
      go_loopg [4] m (fun gg vk wx => ∃ k : Nat, k ≤ m ∧ gg = m - k ∧ vk = .int .i64 k ∧ Hid (∀ j, j < k → Au.okArc n l j) ∧ Below w.heap.size w wx)
      case atStart => exact ⟨0, Nat.zero_le _, rfl, rfl, fun j h => by omega, HBE.out⟩
      case round =>
        obtain ⟨k, hk, rfl, rfl, hS, hbel⟩ := hrel
        have c2 := (hbel.cell (p := ⟨g, o + i * 2 + 1, none⟩) hg).trans c1
        by_cases hkm : k < m
        · have kl : k < l.length := by rw [← HM.out]; exact hkm
          obtain ⟨g2, o2, rfl, hg2, _, hcl2⟩ := HD.out (by omega)
          obtain ⟨d1, d2, d3⟩ := hcl2 k kl
          have e1 := (hbel.cell (p := ⟨g2, o2 + k * 3, none⟩) hg2).trans d1
          have e2 := (hbel.cell (p := ⟨g2, o2 + k * 3 + 1, none⟩) hg2).trans d2
          have e3 := (hbel.cell (p := ⟨g2, o2 + k * 3 + 2, none⟩) hg2).trans d3
          have e4 : ∀ j (h : j < l.length), wr.cell? ⟨g2, o2 + j * 3 + 1, none⟩ = some (.int .i64 l[j].hi) := fun j hj => (hbel.cell (p := ⟨g2, o2 + j * 3 + 1, none⟩) hg2).trans (hcl2 j hj).2.1
          have hA : Hid (Au.okArc n l k ↔ 0 ≤ l[k].lo ∧ l[k].hi ≤ 255 ∧ l[k].lo ≤ l[k].hi ∧ 0 ≤ l[k].to ∧ l[k].to < n ∧ (0 < k → l[k - 1].hi < l[k].lo)) := ⟨fun h => h kl, fun h _ => h⟩
          have j2 : (k : Int) < (m : Int) := by omega
          have HBE2 := Lib.hid hbel
          have E4 := Lib.hid e4
          have hst2 : Hid (Au.okArc n l k → ∀ j, j < k + 1 → Au.okArc n l j) := fun h j hj => by
            by_cases e : j = k
            · subst e; exact h
            · exact hS.out j (by omega)
          clear hcl2 d1 d2 d3 hS hbel e4
          have hE1 : l[k].lo = l[k].lo := rfl
          generalize hx : l[k] = x at *
          obtain ⟨lo, hi', to⟩ := x
          dsimp only at e1 e2 e3 hA
          clear hx hE1
          by_cases q1 : lo < 0
          · have f1 : decide (lo < 0) = true := decide_eq_true q1
            obtain rfl : r = 3 := HBi.out k (fun h => by have := hA.out.1 h; omega)
            clear hA hst2 hst HBi HG HB
            go_wp2_with fail
            go_quiet (fail)
            go_wp2_with fail
            go_ret
            exact ⟨rfl, by first | exact belowN (HBE2.out.alloc HBE2.out.size _) _ | exact HBE2.out.alloc HBE2.out.size _⟩
          have f1 : decide (lo < 0) = false := decide_eq_false q1
          by_cases q2 : 255 < hi'
          · have f2 : decide ((255 : Int) < hi') = true := decide_eq_true q2
            obtain rfl : r = 3 := HBi.out k (fun h => by have := hA.out.1 h; omega)
            clear hA hst2 hst HBi HG HB
            go_wp2_with fail
            go_quiet (fail)
            go_wp2_with fail
            go_ret
            exact ⟨rfl, by first | exact belowN (HBE2.out.alloc HBE2.out.size _) _ | exact HBE2.out.alloc HBE2.out.size _⟩
          have f2 : decide ((255 : Int) < hi') = false := decide_eq_false q2
          by_cases q3 : hi' < lo
          · have f3 : decide (hi' < lo) = true := decide_eq_true q3
            obtain rfl : r = 3 := HBi.out k (fun h => by have := hA.out.1 h; omega)
            clear hA hst2 hst HBi HG HB
            go_wp2_with fail
            go_quiet (fail)
            go_wp2_with fail
            go_ret
            exact ⟨rfl, by first | exact belowN (HBE2.out.alloc HBE2.out.size _) _ | exact HBE2.out.alloc HBE2.out.size _⟩
          have f3 : decide (hi' < lo) = false := decide_eq_false q3
          by_cases q4 : to < 0
          · have f4 : decide (to < 0) = true := decide_eq_true q4
            obtain rfl : r = 3 := HBi.out k (fun h => by have := hA.out.1 h; omega)
            clear hA hst2 hst HBi HG HB
            go_wp2_with fail
            go_quiet (fail)
            go_wp2_with fail
            go_ret
            exact ⟨rfl, by first | exact belowN (HBE2.out.alloc HBE2.out.size _) _ | exact HBE2.out.alloc HBE2.out.size _⟩
          have f4 : decide (to < 0) = false := decide_eq_false q4
          by_cases q5 : (n : Int) ≤ to
          · have f5 : decide ((n : Int) ≤ to) = true := decide_eq_true q5
            obtain rfl : r = 3 := HBi.out k (fun h => by have := hA.out.1 h; omega)
            clear hA hst2 hst HBi HG HB
            go_wp2_with fail
            go_quiet (fail)
            go_wp2_with fail
            go_ret
            exact ⟨rfl, by first | exact belowN (HBE2.out.alloc HBE2.out.size _) _ | exact HBE2.out.alloc HBE2.out.size _⟩
          have f5 : decide ((n : Int) ≤ to) = false := decide_eq_false q5
          by_cases q6 : k = 0
          · have f6 : decide ((0 : Int) < (k : Int)) = false := decide_eq_false (by omega)
            have f6n : decide (0 < k) = false := decide_eq_false (by omega)
            have H2 := Lib.hid (hst2.out (hA.out.2 ⟨by omega, by omega, by omega, by omega, by omega, fun h => by omega⟩))
            clear q6
            clear hA hst2
            go_wp2_with fail
            go_quiet (fail)
            go_wp2_with fail
            go_roundg (m - (k + 1))
            case rel => exact ⟨k + 1, by omega, rfl, by go_num, H2.out, by first | exact belowN (HBE2.out.alloc HBE2.out.size _) _ | exact HBE2.out.alloc HBE2.out.size _⟩
            case measure => omega
          have q7 : (0 : Int) < (k : Int) := by omega
          have f6 : decide ((0 : Int) < (k : Int)) = true := decide_eq_true q7
          have f6n : decide (0 < k) = true := decide_eq_true (by omega)
          have kz : 0 < k := by omega
          have kp : k - 1 < l.length := by omega
          have e5 := E4.out (k - 1) kp
          have q8 : (k : Int) - 1 < (m : Int) := by omega
          have q9 : (0 : Int) ≤ (k : Int) - 1 := by omega
          generalize l[k - 1].hi = ph at *
          have gl : g < wr.heap.size := Nat.lt_of_lt_of_le hg HBE2.out.size
          have gl2 : g2 < wr.heap.size := Nat.lt_of_lt_of_le hg2 HBE2.out.size
          have c6 : (wr.alloc (.cells #[.int .i64 lo, .int .i64 hi', .int .i64 to] 41)).cell? ⟨g, o + i * 2 + 1, none⟩ = some (.slice (some ⟨g2, o2, none⟩) m cap2) := (cell_same (Go.Deep.blk_alloc_lt _ _ _ gl)).trans c2
          have c7 : (wr.alloc (.cells #[.int .i64 lo, .int .i64 hi', .int .i64 to] 41)).cell? ⟨g2, o2 + (k - 1) * 3 + 1, none⟩ = some (.int .i64 ph) := (cell_same (Go.Deep.blk_alloc_lt _ _ _ gl2)).trans e5
          by_cases q10 : lo ≤ ph
          · have f7 : decide (lo ≤ ph) = true := decide_eq_true q10
            obtain rfl : r = 3 := HBi.out k (fun h => by have := (hA.out.1 h).2.2.2.2.2 (by omega); omega)
            clear hA hst2 hst HBi HG HB
            go_wp2_with fail
            go_quiet (fail)
            go_wp2_with fail
            go_ret
            exact ⟨rfl, by first | exact belowN (HBE2.out.alloc HBE2.out.size _) _ | exact HBE2.out.alloc HBE2.out.size _⟩
          · have f7 : decide (lo ≤ ph) = false := decide_eq_false q10
            have H2 := Lib.hid (hst2.out (hA.out.2 ⟨by omega, by omega, by omega, by omega, by omega, fun h => by omega⟩))
            clear hA hst2
            go_wp2_with fail
            go_quiet (fail)
            go_wp2_with fail
            go_roundg (m - (k + 1))
            case rel => exact ⟨k + 1, by omega, rfl, by go_num, H2.out, by first | exact belowN (HBE2.out.alloc HBE2.out.size _) _ | exact HBE2.out.alloc HBE2.out.size _⟩
            case measure => omega
        · obtain rfl : k = m := by omega
          have hall : ∀ j, Au.okArc n l j := fun j => by
            by_cases h : j < k
            · exact hS.out j h
            · intro hl
              rw [← HM.out] at hl
              exact absurd hl h
          have H2 := Lib.hid (hst.out hall)
          have HBE2 := Lib.hid hbel
          clear hS hst hall hbel HBi
          go_wp2_with fail
          go_roundg (n - (i + 1))
          case rel => exact ⟨i + 1, by omega, rfl, by go_num, H2.out, HBE2.out⟩
          case measure => omega
    · obtain rfl : i = n := by omega
      obtain rfl : r = 0 := HG.out (fun j hj => hS.out j hj)
      have HBE := Lib.hid hbel
      clear hS hbel HG HB
      go_wp2_with fail
      go_ret
      exact ⟨rfl, HBE.out⟩

end Go.Proofs.Ytdcofdndkpmpaaa

/-
  The given Accepts.
-/
namespace Go.Proofs.Ytdcofdndkpmpaaa
open Go.RowKit
namespace Au
/-- A state, or -1 for none. -/
def code : Option Nat → Int
  | none => -1
  | some k => k
open Classical in
/-- Is a text taken? -/
noncomputable def takesL (d : List St) (s : List UInt8) : Bool := decide (Fits d) && (ofL d).acc (some 0) (s.map UInt8.toNat)
theorem step_code {d : List St} (h : Fits d) (x : Option Nat) (c : Nat) : step d (code x) c = code (x.bind fun k => (ofL d).step k c) := by
  cases x with
  | none => simp [step, code]
  | some k =>
    simp only [code, Option.bind_some]
    unfold step
    by_cases hk : k < d.length
    · rw [if_neg (by omega), Int.toNat_natCast, List.getElem?_eq_getElem hk]
      simp only [ofL, List.getElem?_eq_getElem hk]
      cases hl : look d[k].arcs (c : Int) with
      | none => rfl
      | some t =>
        have := look_in (n := d.length) (fun j hj => by have := (h.row k hk).1 j hj; omega) hl
        simp only [Option.map_some, Option.getD_some]
        change t = ((t.toNat : Nat) : Int)
        omega
    · rw [if_pos (by omega)]
      simp only [ofL, List.getElem?_eq_none (by omega : d.length ≤ k)]
theorem acc_step {σ : Type} (A : Auto σ) (x : Option σ) (c : Nat) (w : List Nat) : A.acc x (c :: w) = A.acc (x.bind fun k => A.step k c) w := by
  cases x with
  | none => simp [acc_none]
  | some k => rfl
end Au

set_option maxRecDepth 100000 in
set_option maxHeartbeats 4000000 in
theorem acceptsR_any (F : Nat → Prop) (w : World) (v : Value) (d : List Au.St) (s : ByteArray) (hs : s.size ≤ 9223372036854775806) (hv : StS F w v d) :
    Calls Try.prog 12 #[v, .string s] w fun e w' => e = .returned (.bool (Au.takesL d s.data.toList)) ∧ Below w.heap.size w w' := by
  have hK := Lib.hid (checkR_any F w v d hv)
  by_cases hf : Au.Fits d
  · rw [(Au.check_iff d).2 hf] at hK
    have hr : Au.takesL d s.data.toList = (Au.ofL d).acc (some 0) (s.data.toList.map UInt8.toNat) := by unfold Au.takesL; simp [hf]
    have hP : Hid (∀ W, Below w.heap.size w W → ∀ (x : Option Nat) (c : Nat), Calls Try.prog 14 #[v, .int .i64 (Au.code x), .int .i64 c] W fun e w' => e = .returned (.int .i64 (Au.code (x.bind fun k => (Au.ofL d).step k c))) ∧ Below W.heap.size W w') := fun W hb x c => by
      have h := stepR_any F W v d (Au.code x) c (hv.below hb)
      rw [Au.step_code hf] at h
      exact h
    have hlen : s.data.toList.length = s.size := Array.length_toList
    rw [hr]
    obtain ⟨r, hr2⟩ : ∃ r, (Au.ofL d).acc (some 0) (s.data.toList.map UInt8.toNat) = r := ⟨_, rfl⟩
    rw [hr2]
    have hE : Hid (∀ k, k < d.length → ∃ g o cap, v = .slice (some ⟨g, o, none⟩) d.length cap ∧ g < w.heap.size ∧ w.cell? ⟨g, o + k * 2, none⟩ = some (.bool ((Au.ofL d).fin k))) := fun k hk => by
      obtain ⟨a, cap, rfl, _, _, hc⟩ := hv
      obtain ⟨g, o, rfl, hg, _, hcl⟩ := hc (by omega)
      refine ⟨g, o, cap, rfl, hg, ?_⟩
      rw [(hcl k hk).1]
      simp only [Au.ofL, List.getElem?_eq_getElem hk]
    obtain ⟨a, cap, rfl, hc1, hc2, _⟩ := hv
    obtain ⟨n, hn⟩ : ∃ n, n = d.length := ⟨_, rfl⟩
    have hn0 : 0 < n := by have := hf.pos; omega
    have hn2 : n ≤ 20000 := by have := hf.top; omega
    have HF := Lib.hid hf
    have HL := Lib.hid hlen
    have hS0 : Hid ((Au.ofL d).acc (some 0) ((s.data.toList.drop 0).map UInt8.toNat) = r) := hr2
    rw [← hn] at hE ⊢
    rw [← hn] at hP hK
    have HN := Lib.hid hn
    clear hr hr2 hf hlen hn hc1
    go_enter Try.func12, Try.ntmps12
    go_wp2_with fail
    refine hK.out.mono ?_
    rintro e w1 ⟨rfl, hb⟩
    have HB1 := Lib.hid hb
    clear hb
    go_wp2_with fail
    go_loopg [5, 6] s.size (fun gg va vi wx => ∃ (i : Nat) (x : Option Nat), i ≤ s.size ∧ gg = s.size - i ∧ va = .int .i64 (Au.code x) ∧ vi = .int .i64 i ∧ Hid ((Au.ofL d).acc x ((s.data.toList.drop i).map UInt8.toNat) = r) ∧ Below w.heap.size w wx)
    case atStart => exact ⟨0, some 0, Nat.zero_le _, rfl, rfl, rfl, hS0, HB1.out⟩
    case round =>
      obtain ⟨i, x, hi, rfl, rfl, rfl, hS, hbel⟩ := hrel
      have HBE := Lib.hid hbel
      by_cases his : i < s.size
      · have j1 : (i : Int) < (s.size : Int) := by omega
        have hst : Hid ((Au.ofL d).acc (x.bind fun k => (Au.ofL d).step k s[i].toNat) ((s.data.toList.drop (i + 1)).map UInt8.toNat) = r) := by
          have h := hS.out
          rw [List.drop_eq_getElem_cons (by rw [HL.out]; exact his), List.map_cons, Au.acc_step] at h
          exact h
        have hQ := Lib.hid (hP.out wr hbel x s[i].toNat)
        have hby : s[i].toNat < 256 := s[i].toNat_lt
        have hwr : wrap64 ((s[i].toNat : Nat) : Int) = ((s[i].toNat : Nat) : Int) := IntWalk.wrap64_in _ (by omega)
        clear hS hbel
        generalize Au.code x = cx at *
        go_wp2_with fail
        refine hQ.out.mono ?_
        rintro e w2 ⟨rfl, hb⟩
        have HB2 : Hid (Below w.heap.size w w2) := chain HBE.out hb
        clear hb
        go_wp2_with fail
        go_roundg (s.size - (i + 1))
        case rel => exact ⟨i + 1, _, by omega, rfl, rfl, by go_num, hst, HB2.out⟩
        case measure => omega
      · obtain rfl : i = s.size := by omega
        have hfin : (Au.ofL d).acc x [] = r := by
          have h := hS.out
          rw [List.drop_of_length_le (by rw [HL.out]; exact Nat.le_refl _)] at h
          exact h
        clear hS hbel
        cases x with
        | none =>
          obtain rfl : false = r := by rw [Au.acc_none] at hfin; exact hfin
          have e1 : Au.code none = -1 := rfl
          rw [e1]
          clear hfin
          go_wp2_with fail
          go_ret
          exact ⟨rfl, HBE.out⟩
        | some k =>
          have e1 : Au.code (some k) = (k : Int) := rfl
          rw [e1]
          rw [Au.acc_nil] at hfin
          by_cases hk : k < n
          · obtain ⟨g, o, cap', hv, hg, hcl⟩ := hE.out k hk
            simp only [Value.slice.injEq] at hv
            obtain ⟨rfl, _, _⟩ := hv
            have c1 := (HBE.out.cell (p := ⟨g, o + k * 2, none⟩) hg).trans hcl
            have j1 : (k : Int) < (n : Int) := by omega
            have j2 : (0 : Int) ≤ (k : Int) := by omega
            generalize (Au.ofL d).fin k = b at *
            subst hfin
            clear hcl
            go_wp2_with fail
            go_ret
            exact ⟨rfl, HBE.out⟩
          · have hff : (Au.ofL d).fin k = false := by
              rw [HN.out] at hk
              simp only [Au.ofL, List.getElem?_eq_none (by omega : d.length ≤ k)]
            obtain rfl : false = r := by rw [← hfin, hff]
            have j1 : ¬ (k : Int) < (n : Int) := by omega
            have j2 : (0 : Int) ≤ (k : Int) := by omega
            clear hfin hff
            go_wp2_with fail
            go_ret
            exact ⟨rfl, HBE.out⟩
  · have hne : ¬ Au.check d = 0 := fun h => hf ((Au.check_iff d).1 h)
    have hr : Au.takesL d s.data.toList = false := by unfold Au.takesL; simp [hf]
    rw [hr]
    have hne' : (Au.check d != 0) = true := bne_iff_ne.2 hne
    clear hv hr hf hne
    generalize Au.check d = ck at *
    go_enter Try.func12, Try.ntmps12
    go_wp2_with fail
    refine hK.out.mono ?_
    rintro e w1 ⟨rfl, hb⟩
    have HB1 := Lib.hid hb
    clear hb
    go_wp2_with fail
    go_ret
    exact ⟨rfl, HB1.out⟩

end Go.Proofs.Ytdcofdndkpmpaaa

/-
  The given to: where a byte leads, if anything is taken from there.
-/
namespace Go.Proofs.Ytdcofdndkpmpaaa
open Go.RowKit
namespace Au
theorem dead_at {d : List St} {t : Nat} (ht : t < (deadL d).length) : (deadL d)[t] = true ↔ Dead (ofL d) (some t) := by
  rw [← has_get ht, deadL, has_setOf]
  have : t < d.length := by rw [deadL, setOf_length] at ht; exact ht
  exact ⟨fun h => h.2, fun h => ⟨this, h⟩⟩
theorem deadL_length (d : List St) : (deadL d).length = d.length := setOf_length _ _
end Au

set_option maxRecDepth 100000 in
set_option maxHeartbeats 4000000 in
theorem to_any (F G : Nat → Prop) (w : World) (u v : Value) (d : List Au.St) (i c : Nat) (hu : StS F w u d) (hv : SetS G w v (Au.deadL d)) (hf : Au.Fits d) :
    Calls Try.prog 44 #[u, v, .int .i64 i, .int .i64 c] w fun e w' => e = .returned (.int .i64 (Au.code ((Au.ofL d).go i c))) ∧ Below w.heap.size w w' := by
  have hS := stepR_any F w u d i c hu
  have hsc := Au.step_code hf (some i) c
  have e0 : Au.code (some i) = (i : Int) := rfl
  rw [e0, Option.bind_some] at hsc
  rw [hsc] at hS
  have HS := Lib.hid hS
  have hin : ∀ t, (Au.ofL d).step i c = some t → t < d.length := fun t => Au.ofL_in hf.row
  obtain ⟨a, cap, rfl, hc1, hc2, hc⟩ := hv
  obtain ⟨r, hr⟩ : ∃ r, Au.code ((Au.ofL d).go i c) = r := ⟨_, rfl⟩
  rw [hr]
  have hlen := Au.deadL_length d
  clear hS hsc e0 hu
  cases hs : (Au.ofL d).step i c with
  | none =>
    obtain rfl : -1 = r := by
      rw [← hr, Au.go_dead (by rw [hs]; exact Au.acc_none _)]
      rfl
    rw [hs] at HS
    have e1 : Au.code none = -1 := rfl
    rw [e1] at HS
    clear hr hs hc hin
    go_enter Try.func44, Try.ntmps44
    go_wp2_with fail
    refine HS.out.mono ?_
    rintro e w1 ⟨rfl, hb⟩
    have HB := Lib.hid hb
    clear hb
    go_wp2_with fail
    go_ret
    exact ⟨rfl, HB.out⟩
  | some t =>
    have ht := hin t hs
    have htl : t < (Au.deadL d).length := by omega
    obtain ⟨g, o, rfl, hg, _, hcl⟩ := hc (by omega)
    have c1 := hcl t htl
    rw [hs] at HS
    have e1 : Au.code (some t) = (t : Int) := rfl
    rw [e1] at HS
    have hda := Au.dead_at htl
    have j1 : (t : Int) < ((Au.deadL d).length : Int) := by omega
    have j2 : (0 : Int) ≤ (t : Int) := by omega
    have hD1 : Hid ((Au.deadL d)[t] = true → -1 = r) := fun h => by
      rw [← hr, Au.go_dead (by rw [hs]; exact hda.1 h)]
      rfl
    have hD2 : Hid ((Au.deadL d)[t] = false → (t : Int) = r) := fun h => by
      rw [← hr, Au.go_of hs (fun e => by rw [hda.2 e] at h; cases h)]
      rfl
    clear hr hs hc hin hcl hda
    obtain ⟨b, hb⟩ : ∃ b, (Au.deadL d)[t] = b := ⟨_, rfl⟩
    rw [hb] at c1 hD1 hD2
    have C1 : Hid (∀ W, Below w.heap.size w W → W.cell? ⟨g, o + t, none⟩ = some (.bool b)) := fun W h => (h.cell (p := ⟨g, o + t, none⟩) hg).trans c1
    clear hb c1
    generalize (Au.deadL d).length = n at *
    cases b with
    | true =>
      obtain rfl := hD1.out rfl
      clear hD1 hD2
      go_enter Try.func44, Try.ntmps44
      go_wp2_with fail
      refine HS.out.mono ?_
      rintro e w1 ⟨rfl, hb⟩
      have HB := Lib.hid hb
      have c2 := C1.out _ hb
      clear hb
      go_wp2_with fail
      go_ret
      exact ⟨rfl, HB.out⟩
    | false =>
      obtain rfl := hD2.out rfl
      clear hD1 hD2
      go_enter Try.func44, Try.ntmps44
      go_wp2_with fail
      refine HS.out.mono ?_
      rintro e w1 ⟨rfl, hb⟩
      have HB := Lib.hid hb
      have c2 := C1.out _ hb
      clear hb
      go_wp2_with fail
      go_ret
      exact ⟨rfl, HB.out⟩

end Go.Proofs.Ytdcofdndkpmpaaa

/-
  A table of bools in memory; the given unlike.
-/
namespace Go.Proofs.Ytdcofdndkpmpaaa
open Go.RowKit

/-- Block gm is a row of n rows of n bools, each in a block of its own. -/
structure MatB (w : World) (gm : Nat) (gs : Nat → Nat) (n : Nat) (M : Nat → Nat → Bool) : Prop where
  top : w.rowIs gm 62 n (fun i => .slice (some ⟨gs i, 0, none⟩) n n)
  row : ∀ i, i < n → w.rowIs (gs i) 4 n (fun k => .bool (M i k))
  ne : ∀ i, i < n → gs i ≠ gm
  inj : ∀ i j, i < n → j < n → gs i = gs j → i = j
theorem MatB.cells {w : World} {gm : Nat} {gs : Nat → Nat} {n : Nat} {M : Nat → Nat → Bool} (h : MatB w gm gs n M) {i k : Nat} (hi : i < n) (hk : k < n) : w.cell? ⟨gm, i, none⟩ = some (.slice (some ⟨gs i, 0, none⟩) n n) ∧ w.cell? ⟨gs i, k, none⟩ = some (.bool (M i k)) ∧ w.frozen? ⟨gs i, k, none⟩ = false :=
  ⟨h.top.cell hi, (h.row i hi).cell hk, (h.row i hi).frozen k⟩
theorem MatB.other {w w' : World} {gm : Nat} {gs : Nat → Nat} {n : Nat} {M : Nat → Nat → Bool} (h : MatB w gm gs n M) (e : ∀ g, (g = gm ∨ ∃ i, i < n ∧ g = gs i) → w'.heap[g]? = w.heap[g]?) : MatB w' gm gs n M :=
  ⟨h.top.of_block (e gm (.inl rfl)), fun i hi => (h.row i hi).of_block (e _ (.inr ⟨i, hi, rfl⟩)), h.ne, h.inj⟩
theorem MatB.below {w w' : World} {gm : Nat} {gs : Nat → Nat} {n : Nat} {M : Nat → Nat → Bool} (h : MatB w gm gs n M) (hb : Below w.heap.size w w') : MatB w' gm gs n M :=
  h.other fun g hg => by
    rcases hg with rfl | ⟨i, hi, rfl⟩
    · exact hb.block _ h.top.lt
    · exact hb.block _ (h.row i hi).lt
/-- A store into one place. -/
theorem MatB.set {w : World} {gm : Nat} {gs : Nat → Nat} {n : Nat} {M : Nat → Nat → Bool} (h : MatB w gm gs n M) (i k : Nat) (hi : i < n) (b : Bool) : MatB (w.setCell ⟨gs i, k, none⟩ (.bool b)) gm gs n (fun x y => if x = i ∧ y = k then b else M x y) := by
  refine ⟨h.top.setOther (fun e => h.ne i hi e.symm) _, fun x hx => ?_, h.ne, h.inj⟩
  by_cases e : x = i
  · subst e
    refine ((h.row x hx).set k (.bool b)).congr fun y _ => ?_
    by_cases ey : y = k <;> simp [ey]
  · refine ((h.row x hx).setOther (fun e' => e (h.inj x i hx hi e')) _).congr fun y _ => ?_
    simp [e]

namespace Au
/-- Do two that a byte leads to differ? -/
def differ (M : Nat → Nat → Bool) : Option Nat → Option Nat → Bool
  | none, none => false
  | some x, some y => M x y
  | _, _ => true
/-- Does a byte lead two states to such as differ? -/
noncomputable def unlike (d : List St) (M : Nat → Nat → Bool) (i k : Nat) : Bool := (List.range 256).any fun c => differ M ((ofL d).go i c) ((ofL d).go k c)
theorem unlike_iff (d : List St) (M : Nat → Nat → Bool) (i k : Nat) : unlike d M i k = true ↔ ∃ c, c < 256 ∧ differ M ((ofL d).go i c) ((ofL d).go k c) = true := by
  unfold unlike
  rw [List.any_eq_true]
  constructor
  · rintro ⟨c, hc, h⟩
    exact ⟨c, List.mem_range.1 hc, h⟩
  · rintro ⟨c, hc, h⟩
    exact ⟨c, List.mem_range.2 hc, h⟩
end Au

set_option maxRecDepth 100000 in
set_option maxHeartbeats 4000000 in
theorem unlike_any (F G : Nat → Prop) (w : World) (u v : Value) (d : List Au.St) (gm : Nat) (gs : Nat → Nat) (M : Nat → Nat → Bool) (i k : Nat) (hu : StS F w u d) (hv : SetS G w v (Au.deadL d)) (hm : MatB w gm gs d.length M) (hf : Au.Fits d) :
    Calls Try.prog 57 #[u, v, .slice (some ⟨gm, 0, none⟩) d.length d.length, .int .i64 i, .int .i64 k] w fun e w' => e = .returned (.bool (Au.unlike d M i k)) ∧ Below w.heap.size w w' := by
  have HT : Hid (∀ W, Below w.heap.size w W → ∀ i c : Nat, Calls Try.prog 44 #[u, v, .int .i64 i, .int .i64 c] W fun e w' => e = .returned (.int .i64 (Au.code ((Au.ofL d).go i c))) ∧ Below W.heap.size W w') := fun W hb i c => to_any F G W u v d i c (hu.below hb) (hv.below hb) hf
  have HG : Hid (∀ i c t, (Au.ofL d).go i c = some t → t < d.length) := fun i c t h => Au.ofL_in hf.row (Au.go_some h).1
  have HMB : Hid (∀ W, Below w.heap.size w W → MatB W gm gs d.length M) := fun W hb => hm.below hb
  obtain ⟨r, hr⟩ : ∃ r, Au.unlike d M i k = r := ⟨_, rfl⟩
  have HR := Lib.hid hr
  have hn2 : d.length ≤ 20000 := hf.top
  rw [hr]
  generalize d.length = n at *
  clear hu hv hm hf hr
  go_enter Try.func57, Try.ntmps57
  go_wp2_with fail
  go_loopg [11] 256 (fun gg vc wx => ∃ c : Nat, c ≤ 256 ∧ gg = 256 - c ∧ vc = .int .i64 c ∧ Hid (∀ x, x < c → Au.differ M ((Au.ofL d).go i x) ((Au.ofL d).go k x) = false) ∧ Below w.heap.size w wx)
  case atStart => exact ⟨0, by omega, rfl, rfl, fun x h => by omega, Below.refl _ _⟩
  case round =>
    obtain ⟨c, hc, rfl, rfl, hS, hbel⟩ := hrel
    have HBE := Lib.hid hbel
    by_cases hcm : c < 256
    · have j1 : (c : Int) < 256 := by omega
      have T1 := Lib.hid (HT.out wr hbel i c)
      have T2 : Hid (∀ W, Below w.heap.size w W → Calls Try.prog 44 #[u, v, .int .i64 k, .int .i64 c] W fun e w' => e = .returned (.int .i64 (Au.code ((Au.ofL d).go k c))) ∧ Below W.heap.size W w') := fun W hb => HT.out W hb k c
      have hg1 := HG.out i c
      have hg2 := HG.out k c
      have hno : Hid (Au.differ M ((Au.ofL d).go i c) ((Au.ofL d).go k c) = false → ∀ x, x < c + 1 → Au.differ M ((Au.ofL d).go i x) ((Au.ofL d).go k x) = false) := fun h x hx => by
        by_cases e : x = c
        · subst e; exact h
        · exact hS.out x (by omega)
      have hyes : Hid (Au.differ M ((Au.ofL d).go i c) ((Au.ofL d).go k c) = true → true = r) := fun h => by
        rw [← HR.out]
        exact ((Au.unlike_iff d M i k).2 ⟨c, hcm, h⟩).symm
      clear hS hbel
      generalize (Au.ofL d).go i c = x at *
      generalize (Au.ofL d).go k c = y at *
      have hcase : (x = none ∧ y = none) ∨ (∃ s, x = none ∧ y = some s ∧ s < n) ∨ (∃ s, x = some s ∧ y = none ∧ s < n) ∨ ∃ s t, x = some s ∧ y = some t ∧ s < n ∧ t < n := by
        cases x with
        | none =>
          cases y with
          | none => exact .inl ⟨rfl, rfl⟩
          | some t => exact .inr (.inl ⟨t, rfl, rfl, hg2 t rfl⟩)
        | some s =>
          cases y with
          | none => exact .inr (.inr (.inl ⟨s, rfl, rfl, hg1 s rfl⟩))
          | some t => exact .inr (.inr (.inr ⟨s, t, rfl, rfl, hg1 s rfl, hg2 t rfl⟩))
      clear hg1 hg2
      have e0 : Au.code none = -1 := rfl
      have e1 : ∀ s, Au.code (some s) = (s : Int) := fun _ => rfl
      rcases hcase with ⟨rfl, rfl⟩ | ⟨s, rfl, rfl, hs⟩ | ⟨s, rfl, rfl, hs⟩ | ⟨s, t, rfl, rfl, hs, ht⟩
      · rw [e0] at T1 T2
        have H := Lib.hid (hno.out rfl)
        clear hno hyes e0 e1
        go_wp2_with fail
        refine T1.out.mono ?_
        rintro e w2 ⟨rfl, hb⟩
        have HB2 : Hid (Below w.heap.size w w2) := chain HBE.out hb
        clear hb
        go_wp2_with fail
        refine (T2.out _ HB2.out).mono ?_
        rintro e w3 ⟨rfl, hb⟩
        have HB3 : Hid (Below w.heap.size w w3) := chain HB2.out hb
        clear hb
        go_wp2_with fail
        go_roundg (256 - (c + 1))
        case rel => exact ⟨c + 1, by omega, rfl, by go_num, H.out, HB3.out⟩
        case measure => omega
      · obtain rfl := hyes.out rfl
        rw [e0] at T1
        rw [e1] at T2
        have j2 : (0 : Int) ≤ (s : Int) := by omega
        clear hno hyes e0 e1
        go_wp2_with fail
        refine T1.out.mono ?_
        rintro e w2 ⟨rfl, hb⟩
        have HB2 : Hid (Below w.heap.size w w2) := chain HBE.out hb
        clear hb
        go_wp2_with fail
        refine (T2.out _ HB2.out).mono ?_
        rintro e w3 ⟨rfl, hb⟩
        have HB3 : Hid (Below w.heap.size w w3) := chain HB2.out hb
        clear hb
        go_wp2_with fail
        go_ret
        exact ⟨rfl, HB3.out⟩
      · obtain rfl := hyes.out rfl
        rw [e0] at T2
        rw [e1] at T1
        have j2 : (0 : Int) ≤ (s : Int) := by omega
        clear hno hyes e0 e1
        go_wp2_with fail
        refine T1.out.mono ?_
        rintro e w2 ⟨rfl, hb⟩
        have HB2 : Hid (Below w.heap.size w w2) := chain HBE.out hb
        clear hb
        go_wp2_with fail
        refine (T2.out _ HB2.out).mono ?_
        rintro e w3 ⟨rfl, hb⟩
        have HB3 : Hid (Below w.heap.size w w3) := chain HB2.out hb
        clear hb
        go_wp2_with fail
        go_ret
        exact ⟨rfl, HB3.out⟩
      · rw [e1] at T1 T2
        have j2 : (0 : Int) ≤ (s : Int) := by omega
        have j3 : (0 : Int) ≤ (t : Int) := by omega
        have j4 : (s : Int) < (n : Int) := by omega
        have j5 : (t : Int) < (n : Int) := by omega
        have HC : Hid (∀ W, Below w.heap.size w W → W.cell? ⟨gm, s, none⟩ = some (.slice (some ⟨gs s, 0, none⟩) n n) ∧ W.cell? ⟨gs s, t, none⟩ = some (.bool (M s t))) := fun W hb => by
          obtain ⟨h1, h2, _⟩ := (HMB.out W hb).cells hs ht
          exact ⟨h1, h2⟩
        have hM1 : Hid (M s t = false → ∀ x, x < c + 1 → Au.differ M ((Au.ofL d).go i x) ((Au.ofL d).go k x) = false) := fun h => hno.out h
        have hM2 : Hid (M s t = true → true = r) := fun h => hyes.out h
        clear hno hyes e0 e1
        generalize M s t = b at *
        generalize gs s = gx at *
        cases b with
        | false =>
          have H := Lib.hid (hM1.out rfl)
          clear hM1 hM2
          go_wp2_with fail
          refine T1.out.mono ?_
          rintro e w2 ⟨rfl, hb⟩
          have HB2 : Hid (Below w.heap.size w w2) := chain HBE.out hb
          clear hb
          go_wp2_with fail
          refine (T2.out _ HB2.out).mono ?_
          rintro e w3 ⟨rfl, hb⟩
          have HB3 : Hid (Below w.heap.size w w3) := chain HB2.out hb
          obtain ⟨k1, k2⟩ := HC.out w3 HB3.out
          clear hb
          go_wp2_with fail
          go_roundg (256 - (c + 1))
          case rel => exact ⟨c + 1, by omega, rfl, by go_num, H.out, HB3.out⟩
          case measure => omega
        | true =>
          obtain rfl := hM2.out rfl
          clear hM1 hM2
          go_wp2_with fail
          refine T1.out.mono ?_
          rintro e w2 ⟨rfl, hb⟩
          have HB2 : Hid (Below w.heap.size w w2) := chain HBE.out hb
          clear hb
          go_wp2_with fail
          refine (T2.out _ HB2.out).mono ?_
          rintro e w3 ⟨rfl, hb⟩
          have HB3 : Hid (Below w.heap.size w w3) := chain HB2.out hb
          obtain ⟨k1, k2⟩ := HC.out w3 HB3.out
          clear hb
          go_wp2_with fail
          go_ret
          exact ⟨rfl, HB3.out⟩
    · obtain rfl : c = 256 := by omega
      obtain rfl : false = r := by
        rw [← HR.out]
        symm
        rw [← Bool.not_eq_true, Au.unlike_iff]
        rintro ⟨x, hx, h⟩
        rw [hS.out x hx] at h
        cases h
      clear hS hbel
      go_wp2_with fail
      go_ret
      exact ⟨rfl, HBE.out⟩

end Go.Proofs.Ytdcofdndkpmpaaa

/-
  The given apart: which states some text tells apart.
-/
namespace Go.Proofs.Ytdcofdndkpmpaaa
open Go.RowKit

theorem Try.infoBB : (Try.prog.info? 62).map (fun i => (i.zero, i.size, i.bytes)) = some (some (.slice none 0 0), 1, 24) := by kernel_rfl

/-- A table of which the first rows are laid, all from block B on. -/
structure MatR (w : World) (B gm : Nat) (gs : Nat → Nat) (n r : Nat) (M : Nat → Nat → Bool) : Prop where
  top : w.rowIs gm 62 n (fun i => if i < r then .slice (some ⟨gs i, 0, none⟩) n n else .slice none 0 0)
  row : ∀ i, i < r → w.rowIs (gs i) 4 n (fun k => .bool (M i k))
  ne : ∀ i, i < r → gs i ≠ gm
  inj : ∀ i j, i < r → j < r → gs i = gs j → i = j
  base : B ≤ gm ∧ ∀ i, i < r → B ≤ gs i
theorem MatR.mat {w : World} {B gm : Nat} {gs : Nat → Nat} {n : Nat} {M : Nat → Nat → Bool} (h : MatR w B gm gs n n M) : MatB w gm gs n M :=
  ⟨h.top.congr fun i hi => by rw [if_pos hi], h.row, h.ne, h.inj⟩
theorem MatR.other {w w' : World} {B gm : Nat} {gs : Nat → Nat} {n r : Nat} {M : Nat → Nat → Bool} (h : MatR w B gm gs n r M) (e : ∀ g, (g = gm ∨ ∃ i, i < r ∧ g = gs i) → w'.heap[g]? = w.heap[g]?) : MatR w' B gm gs n r M :=
  ⟨h.top.of_block (e gm (.inl rfl)), fun i hi => (h.row i hi).of_block (e _ (.inr ⟨i, hi, rfl⟩)), h.ne, h.inj, h.base⟩
theorem MatR.lt {w : World} {B gm : Nat} {gs : Nat → Nat} {n r : Nat} {M : Nat → Nat → Bool} (h : MatR w B gm gs n r M) {g : Nat} (hg : g = gm ∨ ∃ i, i < r ∧ g = gs i) : g < w.heap.size := by
  rcases hg with rfl | ⟨i, hi, rfl⟩
  · exact h.top.lt
  · exact (h.row i hi).lt
theorem MatR.below {w w' : World} {B gm : Nat} {gs : Nat → Nat} {n r : Nat} {M : Nat → Nat → Bool} (h : MatR w B gm gs n r M) (hb : Below w.heap.size w w') : MatR w' B gm gs n r M := h.other fun g hg => hb.block g (h.lt hg)
theorem MatR.set {w : World} {B gm : Nat} {gs : Nat → Nat} {n r : Nat} {M : Nat → Nat → Bool} (h : MatR w B gm gs n r M) (i k : Nat) (hi : i < r) (b : Bool) : MatR (w.setCell ⟨gs i, k, none⟩ (.bool b)) B gm gs n r (fun x y => if x = i ∧ y = k then b else M x y) := by
  refine ⟨h.top.setOther (fun e => h.ne i hi e.symm) _, fun x hx => ?_, h.ne, h.inj, h.base⟩
  by_cases e : x = i
  · subst e
    refine ((h.row x hx).set k (.bool b)).congr fun y _ => ?_
    by_cases ey : y = k <;> simp [ey]
  · refine ((h.row x hx).setOther (fun e' => e (h.inj x i hx hi e')) _).congr fun y _ => ?_
    simp [e]
/-- One row more, of noughts. -/
theorem MatR.push {w : World} {B gm : Nat} {gs : Nat → Nat} {n r : Nat} {M : Nat → Nat → Bool} (h : MatR w B gm gs n r M) (hB : B ≤ w.heap.size) :
    MatR ((w.setCell ⟨gm, r, none⟩ (.slice (some ⟨w.heap.size, 0, none⟩) n n)).alloc (.cells (madeCells #[.bool false] n) 4)) B gm (fun i => if i = r then w.heap.size else gs i) n (r + 1) (fun x y => if x = r then false else M x y) := by
  have hgm := h.top.lt
  have hge : gm ≠ w.heap.size := by omega
  have hsz : (w.setCell ⟨gm, r, none⟩ (.slice (some ⟨w.heap.size, 0, none⟩) n n)).heap.size = w.heap.size := Go.Deep.nblk_setCell _ _ _
  refine ⟨?_, fun i hi => ?_, fun i hi => ?_, fun i j hi hj e => ?_, h.base.1, fun i hi => ?_⟩
  · refine ((h.top.set r _).alloc _).congr fun i _ => ?_
    by_cases e : i = r
    · subst e
      simp
    · by_cases hl : i < r
      · rw [if_neg e, if_pos hl, if_pos (by omega), if_neg e]
      · rw [if_neg e, if_neg hl, if_neg (by omega)]
  · by_cases e : i = r
    · subst e
      simp only [if_true]
      have h1 := World.rowIs_made (w.setCell ⟨gm, i, none⟩ (.slice (some ⟨w.heap.size, 0, none⟩) n n)) (.bool false) n 4
      rw [hsz] at h1
      exact h1
    · simp only [e, if_false]
      exact ((h.row i (by omega)).setOther (h.ne i (by omega)) _).alloc _
  · by_cases e : i = r
    · simp only [e, if_true]
      omega
    · simp only [e, if_false]
      exact h.ne i (by omega)
  · by_cases ei : i = r <;> by_cases ej : j = r
    · rw [ei, ej]
    · simp only [ei, ej, if_true, if_false] at e
      have := (h.row j (by omega)).lt
      omega
    · simp only [ei, ej, if_true, if_false] at e
      have := (h.row i (by omega)).lt
      omega
    · simp only [ei, ej, if_false] at e
      exact h.inj i j (by omega) (by omega) e
  · by_cases e : i = r
    · simp only [e, if_true]
      exact hB
    · simp only [e, if_false]
      exact h.base.2 i (by omega)

namespace Au
/-- What is known of a table of states that are apart. -/
structure Far (d : List St) (M : Nat → Nat → Bool) : Prop where
  apart : ∀ i k, i < d.length → k < d.length → M i k = true → ¬ Eqv (ofL d) (ofL d) i k
  fin : ∀ i k, i < d.length → k < d.length → M i k = false → (ofL d).fin i = (ofL d).fin k
theorem not_dead {σ : Type} {A : Auto σ} {x : Option σ} (h : ¬ Dead A x) : ∃ w, A.acc x w = true := by
  apply Classical.byContradiction
  intro h'
  apply h
  intro w
  cases e : A.acc x w with
  | false => rfl
  | true => exact absurd ⟨w, e⟩ h'
theorem not_eqv {σ : Type} {A : Auto σ} {x y : σ} (h : ¬ Eqv A A x y) : ∃ w, A.acc (some x) w ≠ A.acc (some y) w := by
  apply Classical.byContradiction
  intro h'
  apply h
  intro w
  exact Classical.byContradiction fun e => h' ⟨w, e⟩
theorem Far.more {d : List St} (hf : Fits d) {M : Nat → Nat → Bool} (h : Far d M) {i k : Nat} (hu : unlike d M i k = true) : Far d (fun x y => if x = i ∧ y = k then true else M x y) := by
  obtain ⟨c, _, hd⟩ := (unlike_iff d M i k).1 hu
  have hne : ¬ Eqv (ofL d) (ofL d) i k := by
    intro e
    rcases go_eqv e c with ⟨h1, h2⟩ | ⟨x, y, h1, h2, h3⟩
    · rw [h1, h2] at hd
      cases hd
    · rw [h1, h2] at hd
      exact h.apart x y (ofL_in hf.row (go_some h1).1) (ofL_in hf.row (go_some h2).1) hd h3
  refine ⟨fun x y hx hy hb => ?_, fun x y hx hy hb => ?_⟩
  · by_cases e : x = i ∧ y = k
    · rw [e.1, e.2]; exact hne
    · rw [if_neg e] at hb
      exact h.apart x y hx hy hb
  · by_cases e : x = i ∧ y = k
    · rw [if_pos e] at hb; cases hb
    · rw [if_neg e] at hb
      exact h.fin x y hx hy hb
theorem Far.done {d : List St} (hf : Fits d) {M : Nat → Nat → Bool} (h : Far d M) (hc : ∀ i k, i < d.length → k < d.length → M i k = false → unlike d M i k = false) {i k : Nat} (hi : i < d.length) (hk : k < d.length) : M i k = !(ofL d).same i k := by
  have key : ∀ w i k, i < d.length → k < d.length → M i k = false → (ofL d).acc (some i) w = (ofL d).acc (some k) w := by
    intro w
    induction w with
    | nil =>
      intro i k hi hk hm
      exact h.fin i k hi hk hm
    | cons c w ih =>
      intro i k hi hk hm
      rw [acc_cons, acc_cons]
      by_cases hc256 : 256 ≤ c
      · rw [ofL_top hf.row i c hc256, ofL_top hf.row k c hc256]
      · have hu := hc i k hi hk hm
        have hd : differ M ((ofL d).go i c) ((ofL d).go k c) = false := by
          rw [← Bool.not_eq_true] at hu ⊢
          exact fun e => hu ((unlike_iff d M i k).2 ⟨c, by omega, e⟩)
        cases h1 : (ofL d).go i c with
        | none =>
          cases h2 : (ofL d).go k c with
          | none => rw [go_none h1 w, go_none h2 w]
          | some y => rw [h1, h2] at hd; cases hd
        | some x =>
          cases h2 : (ofL d).go k c with
          | none => rw [h1, h2] at hd; cases hd
          | some y =>
            rw [h1, h2] at hd
            obtain ⟨g1, _⟩ := go_some h1
            obtain ⟨g2, _⟩ := go_some h2
            rw [g1, g2]
            exact ih x y (ofL_in hf.row g1) (ofL_in hf.row g2) hd
  cases hm : M i k with
  | false =>
    rw [(same_iff (ofL d) i k).2 (fun w => key w i k hi hk hm)]
    rfl
  | true =>
    have := h.apart i k hi hk hm
    cases hs : (ofL d).same i k with
    | false => rfl
    | true => exact absurd ((same_iff (ofL d) i k).1 hs) this
/-- How many places of a table are not set. -/
def unset (n : Nat) (M : Nat → Nat → Bool) : Nat := (List.range (n * n)).countP fun p => !M (p / n) (p % n)
theorem countP_lt {α : Type} (p q : α → Bool) (l : List α) (h : ∀ x ∈ l, q x = true → p x = true) (x : α) (hx : x ∈ l) (hp : p x = true) (hq : q x = false) : l.countP q < l.countP p := by
  induction l with
  | nil => cases hx
  | cons a r ih =>
    rw [List.countP_cons, List.countP_cons]
    have hle : r.countP q ≤ r.countP p := List.countP_mono_left fun x hx hq => h x (List.mem_cons_of_mem _ hx) hq
    rcases List.mem_cons.1 hx with rfl | hr
    · simp only [hp, hq, if_true, Bool.false_eq_true, if_false]
      omega
    · have h1 := ih (fun y hy => h y (List.mem_cons_of_mem _ hy)) hr
      have h2 := h a (List.mem_cons_self ..)
      by_cases ha : q a = true
      · simp only [ha, h2 ha, if_true]
        omega
      · have ha' : q a = false := by simpa using ha
        rw [ha']
        simp only [Bool.false_eq_true, if_false]
        split <;> omega
theorem unset_lt {n : Nat} {M : Nat → Nat → Bool} {i k : Nat} (hi : i < n) (hk : k < n) (hm : M i k = false) : unset n (fun x y => if x = i ∧ y = k then true else M x y) < unset n M := by
  unfold unset
  have hd : (i * n + k) / n = i := by rw [Nat.mul_comm, Nat.mul_add_div (by omega), Nat.div_eq_of_lt hk, Nat.add_zero]
  have hmod : (i * n + k) % n = k := by rw [Nat.mul_comm, Nat.mul_add_mod, Nat.mod_eq_of_lt hk]
  refine countP_lt _ _ _ (fun p _ hq => ?_) (i * n + k) ?_ ?_ ?_
  · by_cases e : p / n = i ∧ p % n = k
    · simp [e] at hq
    · simpa [e] using hq
  · rw [List.mem_range]
    calc i * n + k < i * n + n := by omega
      _ = (i + 1) * n := by rw [Nat.add_mul, Nat.one_mul]
      _ ≤ n * n := Nat.mul_le_mul_right _ (by omega)
  · rw [hd, hmod, hm]; rfl
  · rw [hd, hmod]; simp
def left3 (n : Nat) : Bool → (Nat → Nat → Bool) → Nat
  | true, M => unset n M + 1
  | false, _ => 0
/-- A pass over the table, up to row i, place k. -/
def Pass6 (d : List St) (M M' : Nat → Nat → Bool) (m : Bool) (i k : Nat) : Prop := (m = false ∧ M' = M ∧ (∀ x y, x < i → y < d.length → M x y = false → unlike d M x y = false) ∧ ∀ y, y < k → M i y = false → unlike d M i y = false) ∨ (m = true ∧ unset d.length M' < unset d.length M)
end Au
end Go.Proofs.Ytdcofdndkpmpaaa
