/-
  Lemmas on automata, the program's calls and the given ones, put together of 22 texts (part 1).
-/
import Derived.Lib.Hide
import Derived.Test.YtpoeklgoepjikaaProg
import Derived.WalkKit
import Derived.WalkSpells
import Derived.WalkLawsBesides
import Derived.IntWalk
import Derived.OwnWalk
import Derived.Deep.LoopGhost
import Derived.Deep.OwnRows
import Derived.BigQuiet
import Derived.Laws.AppendOwnNone
import Derived.Laws.StructEq
import Derived.Maps.AppendAt
import Derived.ArgAppend
import Derived.Lib.ValidLaws
import Derived.Lib.MapLaws
import Derived.Lib.RuneCount
/-
  Automata plainly: what they take; the least one, state by state in the order in which they are met; that it hangs on what is taken alone.
-/
namespace Go.Proofs.Ytpoeklgoepjikaa
namespace Au

/-- An automaton over any states. -/
structure Auto (σ : Type) where
  step : σ → Nat → Option σ
  fin : σ → Bool

variable {σ τ : Type}

/-- Is a text taken from here on? -/
def Auto.acc (A : Auto σ) : Option σ → List Nat → Bool
  | none, _ => false
  | some s, [] => A.fin s
  | some s, c :: w => A.acc (A.step s c) w
theorem acc_none (A : Auto σ) (w : List Nat) : A.acc none w = false := by cases w <;> rfl
theorem acc_nil (A : Auto σ) (s : σ) : A.acc (some s) [] = A.fin s := rfl
theorem acc_cons (A : Auto σ) (s : σ) (c : Nat) (w : List Nat) : A.acc (some s) (c :: w) = A.acc (A.step s c) w := rfl

/-- Two states of two automata take the same. -/
def Eqv (A : Auto σ) (B : Auto τ) (s : σ) (t : τ) : Prop := ∀ w, A.acc (some s) w = B.acc (some t) w
theorem Eqv.refl (A : Auto σ) (s : σ) : Eqv A A s s := fun _ => rfl
theorem Eqv.symm {A : Auto σ} {B : Auto τ} {s : σ} {t : τ} (h : Eqv A B s t) : Eqv B A t s := fun w => (h w).symm
theorem Eqv.trans {ρ : Type} {A : Auto σ} {B : Auto τ} {C : Auto ρ} {s : σ} {t : τ} {r : ρ} (h : Eqv A B s t) (g : Eqv B C t r) : Eqv A C s r := fun w => (h w).trans (g w)
theorem Eqv.fin {A : Auto σ} {B : Auto τ} {s : σ} {t : τ} (h : Eqv A B s t) : A.fin s = B.fin t := h []
theorem Eqv.next {A : Auto σ} {B : Auto τ} {s : σ} {t : τ} (h : Eqv A B s t) (c : Nat) (w : List Nat) : A.acc (A.step s c) w = B.acc (B.step t c) w := h (c :: w)

/-- Nothing is taken from here on. -/
def Dead (A : Auto σ) (s : Option σ) : Prop := ∀ w, A.acc s w = false
theorem dead_none (A : Auto σ) : Dead A none := acc_none A

open Classical in
/-- Where a byte leads, if anything is taken from there. -/
noncomputable def Auto.go (A : Auto σ) (s : σ) (c : Nat) : Option σ := if Dead A (A.step s c) then none else A.step s c
open Classical in
/-- Do two states take the same? -/
noncomputable def Auto.same (A : Auto σ) (s t : σ) : Bool := decide (Eqv A A s t)

theorem same_iff (A : Auto σ) (s t : σ) : A.same s t = true ↔ Eqv A A s t := by
  simp [Auto.same]
theorem go_some {A : Auto σ} {s t : σ} {c : Nat} (h : A.go s c = some t) : A.step s c = some t ∧ ¬ Dead A (some t) := by
  unfold Auto.go at h
  split at h
  · cases h
  · rename_i hd
    rw [h] at hd
    exact ⟨h, hd⟩
theorem go_none {A : Auto σ} {s : σ} {c : Nat} (h : A.go s c = none) : Dead A (A.step s c) := by
  unfold Auto.go at h
  split at h
  · assumption
  · rw [h]; exact dead_none A
theorem go_of {A : Auto σ} {s t : σ} {c : Nat} (h : A.step s c = some t) (hd : ¬ Dead A (some t)) : A.go s c = some t := by
  unfold Auto.go
  rw [h, if_neg hd]
theorem go_dead {A : Auto σ} {s : σ} {c : Nat} (hd : Dead A (A.step s c)) : A.go s c = none := by
  unfold Auto.go
  rw [if_pos hd]

/-- Two states that take the same lead alike. -/
theorem go_eqv {A : Auto σ} {B : Auto τ} {s : σ} {t : τ} (h : Eqv A B s t) (c : Nat) : (A.go s c = none ∧ B.go t c = none) ∨ ∃ s' t', A.go s c = some s' ∧ B.go t c = some t' ∧ Eqv A B s' t' := by
  cases hs : A.go s c with
  | none =>
    left
    refine ⟨rfl, go_dead fun w => ?_⟩
    rw [← h.next c w]
    exact go_none hs w
  | some s' =>
    right
    obtain ⟨h1, h2⟩ := go_some hs
    cases ht : B.go t c with
    | none =>
      exfalso
      apply h2
      intro w
      have := h.next c w
      rw [h1] at this
      rw [this]
      exact go_none ht w
    | some t' =>
      obtain ⟨h3, _⟩ := go_some ht
      refine ⟨s', t', rfl, rfl, fun w => ?_⟩
      have := h.next c w
      rwa [h1, h3] at this
theorem same_eqv {A : Auto σ} {B : Auto τ} {s s' : σ} {t t' : τ} (h : Eqv A B s t) (g : Eqv A B s' t') : A.same s s' = B.same t t' := by
  by_cases e : Eqv A A s s'
  · rw [(same_iff A s s').2 e, (same_iff B t t').2 ((h.symm.trans e).trans g)]
  · have e' : ¬ Eqv B B t t' := fun e' => e ((h.trans e').trans g.symm)
    cases h1 : A.same s s' with
    | true => exact absurd ((same_iff A s s').1 h1) e
    | false =>
      cases h2 : B.same t t' with
      | true => exact absurd ((same_iff B t t').1 h2) e'
      | false => rfl

/-- An arc: from a byte to a byte, to a state. -/
structure Arc where
  lo : Int
  hi : Int
  to : Int
  deriving DecidableEq
/-- A state: is it final? Its arcs. -/
structure St where
  fin : Bool
  arcs : List Arc
  deriving DecidableEq

/-- Arcs, with one byte more. -/
def grown (l : List Arc) (c k : Nat) : List Arc :=
  match l.getLast? with
  | some a => if a.hi = (c : Int) - 1 ∧ a.to = (k : Int) then l.dropLast ++ [⟨a.lo, c, k⟩] else l ++ [⟨c, c, k⟩]
  | none => [⟨c, c, k⟩]

/-- The first that is the same, or how many there are. -/
def find (same : σ → σ → Bool) : List σ → σ → Nat
  | [], _ => 0
  | m :: r, n => if same m n = true then 0 else find same r n + 1
theorem find_le (same : σ → σ → Bool) (l : List σ) (n : σ) : find same l n ≤ l.length := by
  induction l with
  | nil => exact Nat.le_refl _
  | cons m r ih => simp only [find, List.length_cons]; split <;> omega
theorem find_hit (same : σ → σ → Bool) (l : List σ) (n : σ) (h : find same l n < l.length) : same l[find same l n] n = true := by
  induction l with
  | nil => simp at h
  | cons m r ih =>
    by_cases hm : same m n = true
    · simp only [find, hm, if_true, List.getElem_cons_zero]
    · have e : find same (m :: r) n = find same r n + 1 := by simp only [find, hm]; rfl
      simp only [e, List.getElem_cons_succ]
      exact ih (by rw [e, List.length_cons] at h; omega)
theorem find_miss (same : σ → σ → Bool) (l : List σ) (n : σ) (k : Nat) (hk : k < find same l n) : ∃ h : k < l.length, same l[k] n = false := by
  induction l generalizing k with
  | nil => simp [find] at hk
  | cons m r ih =>
    by_cases hm : same m n = true
    · simp only [find, hm, if_true] at hk; omega
    · have e : find same (m :: r) n = find same r n + 1 := by simp only [find, hm]; rfl
      rw [e] at hk
      cases k with
      | zero => exact ⟨by simp, by simpa using hm⟩
      | succ k =>
        obtain ⟨h1, h2⟩ := ih k (by omega)
        exact ⟨by simp only [List.length_cons]; omega, by simpa using h2⟩
theorem find_append (same : σ → σ → Bool) (l r : List σ) (n : σ) (h : find same l n < l.length) : find same (l ++ r) n = find same l n := by
  induction l with
  | nil => simp at h
  | cons m t ih =>
    by_cases hm : same m n = true
    · simp only [List.cons_append, find, hm, if_true]
    · have e : find same (m :: t) n = find same t n + 1 := by simp only [find, hm]; rfl
      rw [e, List.length_cons] at h
      have := ih (by omega)
      simp only [List.cons_append, find, hm]
      simp [this]
theorem find_snoc (same : σ → σ → Bool) (hr : ∀ s, same s s = true) (l : List σ) (n : σ) (h : find same l n = l.length) : find same (l ++ [n]) n = l.length := by
  induction l with
  | nil => simp [find, hr]
  | cons m t ih =>
    by_cases hm : same m n = true
    · simp [find, hm] at h
    · have e : find same (m :: t) n = find same t n + 1 := by simp only [find, hm]; rfl
      rw [e, List.length_cons] at h
      have := ih (by omega)
      simp only [List.cons_append, find, hm]
      simp [this]

/-- What an order of states is made with: where a byte leads, which are one. -/
structure Walk (σ : Type) where
  go : σ → Nat → Option σ
  same : σ → σ → Bool
  fin : σ → Bool

/-- One byte of a state. -/
def Walk.byte (W : Walk σ) (s : σ) (c : Nat) (p : List σ × List Arc) : List σ × List Arc :=
  match W.go s c with
  | none => p
  | some n => (if find W.same p.1 n = p.1.length then p.1 ++ [n] else p.1, grown p.2 c (find W.same p.1 n))
/-- Its first bytes. -/
def Walk.bytes (W : Walk σ) (s : σ) (met : List σ) : Nat → List σ × List Arc
  | 0 => (met, [])
  | c + 1 => W.byte s c (W.bytes s met c)
/-- The first states. -/
def Walk.states (W : Walk σ) (start : σ) : Nat → List σ × List St
  | 0 => ([start], [])
  | i + 1 =>
    match (W.states start i).1[i]? with
    | none => W.states start i
    | some s => ((W.bytes s (W.states start i).1 256).1, (W.states start i).2 ++ [⟨W.fin s, (W.bytes s (W.states start i).1 256).2⟩])

/-- Two lists, place by place. -/
inductive All2 (R : σ → τ → Prop) : List σ → List τ → Prop
  | nil : All2 R [] []
  | cons {a b l m} : R a b → All2 R l m → All2 R (a :: l) (b :: m)
theorem All2.length {R : σ → τ → Prop} {l : List σ} {m : List τ} (h : All2 R l m) : l.length = m.length := by
  induction h with
  | nil => rfl
  | cons _ _ ih => simp [ih]
theorem All2.snoc {R : σ → τ → Prop} {l : List σ} {m : List τ} (h : All2 R l m) {a : σ} {b : τ} (hab : R a b) : All2 R (l ++ [a]) (m ++ [b]) := by
  induction h with
  | nil => exact .cons hab .nil
  | cons h1 _ ih => exact .cons h1 ih
theorem All2.get {R : σ → τ → Prop} {l : List σ} {m : List τ} (h : All2 R l m) (i : Nat) : (l[i]? = none ∧ m[i]? = none) ∨ ∃ a b, l[i]? = some a ∧ m[i]? = some b ∧ R a b := by
  induction h generalizing i with
  | nil => left; simp
  | cons h1 _ ih =>
    cases i with
    | zero => right; exact ⟨_, _, rfl, rfl, h1⟩
    | succ i => simpa using ih i

/-- Two walks that go alike. -/
structure Alike (V : Walk σ) (W : Walk τ) (R : σ → τ → Prop) : Prop where
  fin : ∀ s t, R s t → V.fin s = W.fin t
  go : ∀ s t, R s t → ∀ c, (V.go s c = none ∧ W.go t c = none) ∨ ∃ s' t', V.go s c = some s' ∧ W.go t c = some t' ∧ R s' t'
  same : ∀ s t s' t', R s t → R s' t' → V.same s s' = W.same t t'
theorem Alike.find {V : Walk σ} {W : Walk τ} {R : σ → τ → Prop} (h : Alike V W R) {l : List σ} {m : List τ} (hl : All2 R l m) {a : σ} {b : τ} (hab : R a b) : Au.find V.same l a = Au.find W.same m b := by
  induction hl with
  | nil => rfl
  | cons h1 _ ih => simp only [Au.find]; rw [h.same _ _ _ _ h1 hab, ih]
theorem Alike.byte {V : Walk σ} {W : Walk τ} {R : σ → τ → Prop} (h : Alike V W R) {s : σ} {t : τ} (hst : R s t) (c : Nat) {p : List σ × List Arc} {q : List τ × List Arc} (h1 : All2 R p.1 q.1) (h2 : p.2 = q.2) :
    All2 R (V.byte s c p).1 (W.byte t c q).1 ∧ (V.byte s c p).2 = (W.byte t c q).2 := by
  unfold Walk.byte
  rcases h.go s t hst c with ⟨e1, e2⟩ | ⟨s', t', e1, e2, hr⟩
  · rw [e1, e2]
    exact ⟨h1, h2⟩
  · rw [e1, e2]
    dsimp only
    rw [h.find h1 hr, h1.length, h2]
    refine ⟨?_, rfl⟩
    split
    · exact h1.snoc hr
    · exact h1
theorem Alike.bytes {V : Walk σ} {W : Walk τ} {R : σ → τ → Prop} (h : Alike V W R) {s : σ} {t : τ} (hst : R s t) {l : List σ} {m : List τ} (hl : All2 R l m) (c : Nat) :
    All2 R (V.bytes s l c).1 (W.bytes t m c).1 ∧ (V.bytes s l c).2 = (W.bytes t m c).2 := by
  induction c with
  | zero => exact ⟨hl, rfl⟩
  | succ c ih => exact h.byte hst c ih.1 ih.2
theorem Alike.states {V : Walk σ} {W : Walk τ} {R : σ → τ → Prop} (h : Alike V W R) {s : σ} {t : τ} (hst : R s t) (i : Nat) :
    All2 R (V.states s i).1 (W.states t i).1 ∧ (V.states s i).2 = (W.states t i).2 := by
  induction i with
  | zero => exact ⟨.cons hst .nil, rfl⟩
  | succ i ih =>
    simp only [Walk.states]
    rcases ih.1.get i with ⟨e1, e2⟩ | ⟨a, b, e1, e2, hr⟩
    · rw [e1, e2]
      exact ih
    · rw [e1, e2]
      obtain ⟨h1, h2⟩ := h.bytes hr ih.1 256
      dsimp only
      rw [h2, ih.2, h.fin _ _ hr]
      exact ⟨h1, rfl⟩

/-- The walk of the least automaton. -/
noncomputable def Auto.walk (A : Auto σ) : Walk σ := ⟨A.go, A.same, A.fin⟩
theorem walk_alike (A : Auto σ) (B : Auto τ) : Alike A.walk B.walk (Eqv A B) :=
  ⟨fun _ _ h => h.fin, fun _ _ h c => go_eqv h c, fun _ _ _ _ h g => same_eqv h g⟩

end Au
end Go.Proofs.Ytpoeklgoepjikaa

/-
  Rows of arcs: what they lead to, that they are an automaton's; the least automaton takes what the first one takes.
-/
namespace Go.Proofs.Ytpoeklgoepjikaa
namespace Au
variable {σ τ : Type}

/-- Where the first arc that holds a number leads. -/
def look : List Arc → Int → Option Int
  | [], _ => none
  | a :: r, x => if a.lo ≤ x ∧ x ≤ a.hi then some a.to else look r x
theorem look_append (l r : List Arc) (x : Int) : look (l ++ r) x = (look l x).or (look r x) := by
  induction l with
  | nil => simp [look]
  | cons a t ih =>
    simp only [List.cons_append, look]
    split
    · simp
    · exact ih

/-- Arcs as 8.1 asks for them, of so many states, below byte c. -/
def Row (n : Nat) (c : Int) (l : List Arc) : Prop :=
  (∀ k (h : k < l.length), 0 ≤ l[k].lo ∧ l[k].lo ≤ l[k].hi ∧ l[k].hi < c ∧ 0 ≤ l[k].to ∧ l[k].to < n) ∧ ∀ k (h : k + 1 < l.length), l[k].hi < l[k + 1].lo
theorem Row.nil (n : Nat) (c : Int) : Row n c [] := ⟨fun k h => by simp at h, fun k h => by simp at h⟩
theorem Row.mono {n m : Nat} {c d : Int} {l : List Arc} (h : Row n c l) (hn : n ≤ m) (hc : c ≤ d) : Row m d l :=
  ⟨fun k hk => by have := h.1 k hk; omega, h.2⟩
theorem Row.snoc {n : Nat} {c d : Int} {l : List Arc} (h : Row n c l) (a : Arc) (h1 : 0 ≤ a.lo) (h2 : a.lo ≤ a.hi) (h3 : a.hi < d) (h4 : 0 ≤ a.to) (h5 : a.to < n) (h6 : ∀ k (hk : k < l.length), l[k].hi < a.lo) (hcd : c ≤ d) : Row n d (l ++ [a]) := by
  refine ⟨fun k hk => ?_, fun k hk => ?_⟩
  · rw [List.length_append] at hk
    by_cases hl : k < l.length
    · have := h.1 k hl
      rw [List.getElem_append_left hl]
      omega
    · have e : k = l.length := by simp at hk; omega
      subst e
      simp
      omega
  · rw [List.length_append] at hk
    simp only [List.length_cons, List.length_nil] at hk
    by_cases hl : k + 1 < l.length
    · rw [List.getElem_append_left (by omega), List.getElem_append_left hl]
      exact h.2 k hl
    · have e : k + 1 = l.length := by omega
      have h7 := h6 k (by omega)
      rw [List.getElem_append_left (by omega)]
      simp only [e, List.getElem_append_right (Nat.le_refl _), Nat.sub_self, List.getElem_cons_zero]
      exact h7
theorem Row.init {n : Nat} {c : Int} {l : List Arc} {a : Arc} (h : Row n c (l ++ [a])) : Row n c l ∧ (0 ≤ a.lo ∧ a.lo ≤ a.hi ∧ a.hi < c ∧ 0 ≤ a.to ∧ a.to < n) ∧ ∀ k (hk : k < l.length), l[k].hi < a.lo := by
  have hlen : (l ++ [a]).length = l.length + 1 := by simp
  refine ⟨⟨fun k hk => ?_, fun k hk => ?_⟩, ?_, ?_⟩
  · have := h.1 k (by omega)
    rwa [List.getElem_append_left hk] at this
  · have := h.2 k (by omega)
    rwa [List.getElem_append_left (by omega), List.getElem_append_left hk] at this
  · have := h.1 l.length (by omega)
    simpa using this
  · intro k hk
    have main : ∀ d k, k + d + 1 = l.length → ∀ (hk : k < l.length), l[k].hi < a.lo := by
      intro d
      induction d with
      | zero =>
        intro k e hk
        have h1 := h.2 k (by omega)
        have e' : k + 1 = l.length := by omega
        simp only [List.getElem_append_left hk, e', List.getElem_append_right (Nat.le_refl _), Nat.sub_self, List.getElem_cons_zero] at h1
        exact h1
      | succ d ih =>
        intro k e hk
        have h1 := ih (k + 1) (by omega) (by omega)
        have h2 := h.2 k (by omega)
        rw [List.getElem_append_left hk, List.getElem_append_left (by omega)] at h2
        have h3 := h.1 (k + 1) (by omega)
        rw [List.getElem_append_left (by omega)] at h3
        omega
    exact main (l.length - k - 1) k (by omega) hk

theorem look_above {n : Nat} {c : Int} {l : List Arc} (h : Row n c l) (x : Int) (hx : c ≤ x) : look l x = none := by
  induction l with
  | nil => rfl
  | cons a r ih =>
    simp only [look]
    have h0 := h.1 0 (by simp)
    simp only [List.getElem_cons_zero] at h0
    rw [if_neg (by omega)]
    apply ih
    exact ⟨fun k hk => by have := h.1 (k + 1) (by simp; omega); simpa using this, fun k hk => by have := h.2 (k + 1) (by simp; omega); simpa using this⟩

theorem last_cases (l : List Arc) : l = [] ∨ ∃ r a, l = r ++ [a] := by
  rcases List.eq_nil_or_concat l with h | ⟨r, a, h⟩
  · exact .inl h
  · exact .inr ⟨r, a, by rw [h, List.concat_eq_append]⟩
theorem grown_snoc (r : List Arc) (a : Arc) (c k : Nat) : grown (r ++ [a]) c k = if a.hi = (c : Int) - 1 ∧ a.to = (k : Int) then r ++ [⟨a.lo, c, k⟩] else r ++ [a] ++ [⟨c, c, k⟩] := by
  unfold grown
  simp
theorem grown_nil (c k : Nat) : grown [] c k = [⟨c, c, k⟩] := rfl
theorem grown_row {n : Nat} {l : List Arc} {c k : Nat} (h : Row n c l) (hk : k < n) : Row n (c + 1) (grown l c k) := by
  rcases last_cases l with rfl | ⟨r, a, rfl⟩
  · rw [grown_nil]
    exact (Row.nil n 0).snoc ⟨c, c, k⟩ (by simp) (by simp) (by simp; omega) (by simp) (by simp; omega) (fun k hk => by simp at hk) (by omega)
  · rw [grown_snoc]
    obtain ⟨h1, h2, h3⟩ := h.init
    split
    · exact h1.snoc ⟨a.lo, c, k⟩ (by simp; omega) (by simp; omega) (by simp; omega) (by simp) (by simp; omega) h3 (by omega)
    · refine h.snoc ⟨c, c, k⟩ (by simp) (by simp) (by simp; omega) (by simp) (by simp; omega) (fun j hj => ?_) (by omega)
      have := (h.1 j hj).2.2.1
      simpa using this
theorem grown_look {n : Nat} {l : List Arc} {c k : Nat} (h : Row n c l) (x : Int) : look (grown l c k) x = if x = c then some (k : Int) else look l x := by
  rcases last_cases l with rfl | ⟨r, a, rfl⟩
  · rw [grown_nil]
    simp only [look]
    by_cases hx : x = c
    · rw [if_pos hx, if_pos (by omega)]
    · rw [if_neg hx, if_neg (by omega)]
  · rw [grown_snoc]
    obtain ⟨h1, h2, h3⟩ := h.init
    split
    · rename_i hc
      rw [look_append, look_append]
      by_cases hx : x = c
      · rw [if_pos hx]
        have : look r x = none := by
          apply look_above (c := a.lo) (n := n) ⟨fun k hk => ?_, h1.2⟩
          · omega
          · have := h1.1 k hk
            have := h3 k hk
            omega
        rw [this]
        simp only [look]
        rw [if_pos (by omega)]
        rfl
      · rw [if_neg hx]
        congr 1
        simp only [look]
        by_cases hy : a.lo ≤ x ∧ x ≤ a.hi
        · rw [if_pos hy, if_pos (by omega), hc.2]
        · rw [if_neg hy, if_neg (by omega)]
    · rw [look_append _ [_]]
      by_cases hx : x = c
      · rw [if_pos hx, look_above h x (by omega)]
        simp only [look]
        rw [if_pos (by omega)]
        rfl
      · rw [if_neg hx]
        simp only [look]
        rw [if_neg (by omega)]
        simp

/-- An automaton out of rows. -/
def ofL (d : List St) : Auto Nat where
  step := fun i c => match d[i]? with
    | none => none
    | some s => (look s.arcs c).map Int.toNat
  fin := fun i => match d[i]? with
    | none => false
    | some s => s.fin

/-- How far the states met go. -/
def Walk.met (W : Walk σ) (s : σ) (i : Nat) : List σ := (W.states s i).1
def Walk.out (W : Walk σ) (s : σ) (i : Nat) : List St := (W.states s i).2
/-- All states are met. -/
def Walk.Done (W : Walk σ) (s : σ) (i : Nat) : Prop := (W.met s i).length ≤ i

theorem byte_grows (W : Walk σ) (s : σ) (c : Nat) (p : List σ × List Arc) : ∃ r, (W.byte s c p).1 = p.1 ++ r := by
  unfold Walk.byte
  split
  · exact ⟨[], by simp⟩
  · dsimp only
    split
    · exact ⟨_, rfl⟩
    · exact ⟨[], by simp⟩
theorem bytes_grows (W : Walk σ) (s : σ) (m : List σ) (c : Nat) : ∃ r, (W.bytes s m c).1 = m ++ r := by
  induction c with
  | zero => exact ⟨[], by simp [Walk.bytes]⟩
  | succ c ih =>
    obtain ⟨r, h⟩ := ih
    obtain ⟨t, g⟩ := byte_grows W s c (W.bytes s m c)
    exact ⟨r ++ t, by rw [Walk.bytes, g, h, List.append_assoc]⟩
theorem met_grows (W : Walk σ) (s : σ) (i : Nat) : ∃ r, W.met s (i + 1) = W.met s i ++ r := by
  unfold Walk.met
  simp only [Walk.states]
  split
  · exact ⟨[], by simp⟩
  · exact bytes_grows W _ _ 256
theorem met_mono (W : Walk σ) (s : σ) (i j : Nat) : ∃ r, W.met s (i + j) = W.met s i ++ r := by
  induction j with
  | zero => exact ⟨[], by simp⟩
  | succ j ih =>
    obtain ⟨r, h⟩ := ih
    obtain ⟨t, g⟩ := met_grows W s (i + j)
    exact ⟨r ++ t, by rw [← Nat.add_assoc, g, h, List.append_assoc]⟩
theorem done_stays (W : Walk σ) (s : σ) (i j : Nat) (h : W.Done s i) : W.states s (i + j) = W.states s i := by
  induction j with
  | zero => rfl
  | succ j ih =>
    rw [← Nat.add_assoc, Walk.states, ih]
    have : (W.states s i).1[i + j]? = none := List.getElem?_eq_none (by unfold Walk.Done Walk.met at h; omega)
    rw [this]
theorem done_same (W : Walk σ) (s : σ) (i j : Nat) (hi : W.Done s i) (hj : W.Done s j) : W.states s i = W.states s j := by
  rcases Nat.le_total i j with h | h
  · obtain ⟨d, rfl⟩ : ∃ d, j = i + d := ⟨j - i, by omega⟩
    exact (done_stays W s i d hi).symm
  · obtain ⟨d, rfl⟩ : ∃ d, i = j + d := ⟨i - j, by omega⟩
    exact done_stays W s j d hj
theorem out_length (W : Walk σ) (s : σ) (i : Nat) : (W.out s i).length = min i (W.met s i).length := by
  induction i with
  | zero => simp [Walk.out, Walk.states]
  | succ i ih =>
    obtain ⟨r, hr⟩ := met_grows W s i
    have hl := congrArg List.length hr
    rw [List.length_append] at hl
    unfold Walk.out Walk.met at *
    simp only [Walk.states] at hl ⊢
    split
    · rename_i hn
      rw [hn] at hl
      have : (W.states s i).1.length ≤ i := List.getElem?_eq_none_iff.1 hn
      dsimp only at hl
      omega
    · rename_i a ha
      have : i < (W.states s i).1.length := (List.getElem?_eq_some_iff.1 ha).1
      rw [ha] at hl
      dsimp only at hl ⊢
      rw [List.length_append, ih]
      simp
      omega
end Au
end Go.Proofs.Ytpoeklgoepjikaa

/-
  What the states met in order take: what the first automaton takes; how many they may be.
-/
namespace Go.Proofs.Ytpoeklgoepjikaa
namespace Au
variable {σ τ : Type}

/-- What a row of arcs says of a state, where the states that were met are these. -/
structure Told (W : Walk σ) (met : List σ) (s : σ) (c : Nat) (arcs : List Arc) : Prop where
  row : Row met.length c arcs
  look : ∀ x, x < c → look arcs (x : Int) = (W.go s x).map (fun n => ((find W.same met n : Nat) : Int))
  found : ∀ x n, x < c → W.go s x = some n → find W.same met n < met.length
theorem Told.more {W : Walk σ} {met : List σ} {s : σ} {c : Nat} {arcs : List Arc} (h : Told W met s c arcs) (r : List σ) : Told W (met ++ r) s c arcs where
  row := h.row.mono (by simp) (Int.le_refl _)
  look := fun x hx => by
    rw [h.look x hx]
    cases hg : W.go s x with
    | none => rfl
    | some n =>
      simp only [Option.map_some]
      rw [find_append _ _ _ _ (h.found x n hx hg)]
  found := fun x n hx hg => by
    have := h.found x n hx hg
    rw [find_append _ _ _ _ this, List.length_append]
    omega
theorem bytes_told (W : Walk σ) (hr : ∀ s, W.same s s = true) (s : σ) (met : List σ) (c : Nat) : Told W (W.bytes s met c).1 s c (W.bytes s met c).2 := by
  induction c with
  | zero => exact ⟨Row.nil _ _, fun x hx => by omega, fun x n hx => by omega⟩
  | succ c ih =>
    simp only [Walk.bytes]
    generalize W.bytes s met c = p at *
    unfold Walk.byte
    cases hg : W.go s c with
    | none =>
      refine ⟨ih.row.mono (Nat.le_refl _) (by omega), fun x hx => ?_, fun x n hx hn => ?_⟩
      · by_cases hxc : x = c
        · subst hxc
          rw [hg, look_above ih.row _ (Int.le_refl _)]
          rfl
        · exact ih.look x (by omega)
      · by_cases hxc : x = c
        · subst hxc
          rw [hg] at hn
          cases hn
        · exact ih.found x n (by omega) hn
    | some n =>
      dsimp only
      have key : ∀ met' : List σ, (∃ r, met' = p.1 ++ r) → find W.same met' n = find W.same p.1 n → find W.same p.1 n < met'.length → Told W met' s (c + 1) (grown p.2 c (find W.same p.1 n)) := by
        rintro met' ⟨r, rfl⟩ h1 h2
        have ih' := ih.more r
        have hrow : Row (p.1 ++ r).length ((c : Int) + 1) (grown p.2 c (find W.same p.1 n)) := grown_row ih'.row h2
        refine ⟨hrow, fun x hx => ?_, fun x m hx hm => ?_⟩
        · rw [grown_look ih'.row]
          by_cases hxc : x = c
          · subst hxc
            rw [if_pos rfl, hg, Option.map_some, h1]
          · rw [if_neg (by omega)]
            exact ih'.look x (by omega)
        · by_cases hxc : x = c
          · subst hxc
            rw [hg] at hm
            cases hm
            rw [h1]
            exact h2
          · exact ih'.found x m (by omega) hm
      by_cases hf : find W.same p.1 n = p.1.length
      · rw [if_pos hf]
        refine key _ ⟨[n], rfl⟩ ?_ ?_
        · rw [find_snoc _ hr _ _ hf, hf]
        · rw [hf]; simp
      · rw [if_neg hf]
        have := find_le W.same p.1 n
        exact key _ ⟨[], by simp⟩ rfl (by omega)

/-- Each state that has been told of. -/
theorem states_told (W : Walk σ) (hr : ∀ s, W.same s s = true) (s : σ) (i k : Nat) (hk : k < (W.out s i).length) :
    ∃ a arcs, (W.met s i)[k]? = some a ∧ (W.out s i)[k]? = some ⟨W.fin a, arcs⟩ ∧ Told W (W.met s i) a 256 arcs := by
  induction i with
  | zero => simp [Walk.out, Walk.states] at hk
  | succ i ih =>
    have hol := out_length W s i
    unfold Walk.out Walk.met at *
    simp only [Walk.states] at hk ⊢
    cases hi : (W.states s i).1[i]? with
    | none =>
      rw [hi] at hk
      exact ih hk
    | some b =>
      rw [hi] at hk
      dsimp only at hk ⊢
      obtain ⟨r, hbr⟩ := bytes_grows W b (W.states s i).1 256
      have hilt : i < (W.states s i).1.length := (List.getElem?_eq_some_iff.1 hi).1
      have hoi : (W.states s i).2.length = i := by omega
      by_cases hki : k < (W.states s i).2.length
      · obtain ⟨a, arcs, h1, h2, h3⟩ := ih hki
        have hkm : k < (W.states s i).1.length := (List.getElem?_eq_some_iff.1 h1).1
        refine ⟨a, arcs, ?_, ?_, ?_⟩
        · rw [hbr, List.getElem?_append_left hkm]
          exact h1
        · rw [List.getElem?_append_left hki]
          exact h2
        · rw [hbr]
          exact h3.more r
      · rw [List.length_append] at hk
        simp only [List.length_cons, List.length_nil] at hk
        have e : k = i := by omega
        subst e
        refine ⟨b, _, ?_, ?_, bytes_told W hr b (W.states s k).1 256⟩
        · rw [hbr, List.getElem?_append_left hilt]
          exact hi
        · rw [List.getElem?_append_right (by omega), hoi, Nat.sub_self]
          rfl

/-- A walk that goes as an automaton does, but for states from which nothing is taken. -/
structure Fair (W : Walk σ) (A : Auto σ) : Prop where
  fin : ∀ s, W.fin s = A.fin s
  go : ∀ s c, (W.go s c = none ∧ Dead A (A.step s c)) ∨ ∃ t, W.go s c = some t ∧ A.step s c = some t
  refl : ∀ s, W.same s s = true
  same : ∀ s t, W.same s t = true → Eqv A A s t
  top : ∀ s c, 256 ≤ c → Dead A (A.step s c)

theorem Fair.takes {W : Walk σ} {A : Auto σ} (h : Fair W A) (s : σ) (i : Nat) (hd : W.Done s i) (w : List Nat) (k : Nat) (a : σ) (hk : (W.met s i)[k]? = some a) : (ofL (W.out s i)).acc (some k) w = A.acc (some a) w := by
  have hol := out_length W s i
  unfold Walk.Done at hd
  have hkl : k < (W.met s i).length := (List.getElem?_eq_some_iff.1 hk).1
  induction w generalizing k a with
  | nil =>
    obtain ⟨b, arcs, h1, h2, _⟩ := states_told W h.refl s i k (by omega)
    rw [hk] at h1
    cases h1
    simp only [acc_nil, ofL, h2]
    exact h.fin a
  | cons c w ih =>
    obtain ⟨b, arcs, h1, h2, h3⟩ := states_told W h.refl s i k (by omega)
    rw [hk] at h1
    cases h1
    rw [acc_cons, acc_cons]
    have hs : (ofL (W.out s i)).step k c = (look arcs c).map Int.toNat := by
      simp only [ofL, h2]
    rw [hs]
    by_cases hc : c < 256
    · rw [h3.look c hc]
      rcases h.go a c with ⟨g1, g2⟩ | ⟨t, g1, g2⟩
      · rw [g1, Option.map_none, Option.map_none, acc_none]
        exact (g2 w).symm
      · have hf := h3.found c t hc g1
        rw [g1, Option.map_some, Option.map_some, Int.toNat_natCast, g2, ih _ ((W.met s i)[find W.same (W.met s i) t]) (List.getElem?_eq_getElem hf) hf]
        exact h.same _ _ (find_hit W.same (W.met s i) t hf) w
    · have : look arcs (c : Int) = none := look_above h3.row _ (by omega)
      rw [this]
      simp only [Option.map_none, acc_none]
      exact (h.top a c (by omega) w).symm

theorem fair_walk (A : Auto σ) (top : ∀ s c, 256 ≤ c → A.step s c = none) : Fair A.walk A where
  fin := fun _ => rfl
  go := fun s c => by
    show (A.go s c = none ∧ _) ∨ ∃ t, A.go s c = some t ∧ _
    cases h : A.go s c with
    | none => exact .inl ⟨rfl, go_none h⟩
    | some t => exact .inr ⟨t, rfl, (go_some h).1⟩
  refl := fun s => (same_iff A s s).2 (Eqv.refl A s)
  same := fun s t h => (same_iff A s t).1 h
  top := fun s c h w => by rw [top s c h]; exact acc_none A w

/-- The states met are no two the same. -/
theorem byte_pair (W : Walk σ) (s : σ) (c : Nat) (p : List σ × List Arc) (h : p.1.Pairwise (fun a b => W.same a b = false)) : (W.byte s c p).1.Pairwise (fun a b => W.same a b = false) := by
  unfold Walk.byte
  split
  · exact h
  · rename_i n hn
    dsimp only
    split
    · rename_i hf
      rw [List.pairwise_append]
      refine ⟨h, List.pairwise_singleton _ _, fun a ha b hb => ?_⟩
      rw [List.mem_singleton] at hb
      subst hb
      obtain ⟨k, hk, rfl⟩ := List.getElem_of_mem ha
      exact (find_miss W.same p.1 b k (by omega)).2
    · exact h
theorem bytes_pair (W : Walk σ) (s : σ) (m : List σ) (c : Nat) (h : m.Pairwise (fun a b => W.same a b = false)) : (W.bytes s m c).1.Pairwise (fun a b => W.same a b = false) := by
  induction c with
  | zero => exact h
  | succ c ih => exact byte_pair W s c _ ih
theorem met_pair (W : Walk σ) (s : σ) (i : Nat) : (W.met s i).Pairwise (fun a b => W.same a b = false) := by
  induction i with
  | zero => exact List.pairwise_singleton _ _
  | succ i ih =>
    unfold Walk.met at *
    simp only [Walk.states]
    split
    · exact ih
    · exact bytes_pair W _ _ 256 ih
/-- They are all of a set that is never left. -/
theorem byte_all (W : Walk σ) (P : σ → Prop) (hP : ∀ s c t, P s → W.go s c = some t → P t) (s : σ) (hs : P s) (c : Nat) (p : List σ × List Arc) (h : ∀ x ∈ p.1, P x) : ∀ x ∈ (W.byte s c p).1, P x := by
  unfold Walk.byte
  split
  · exact h
  · rename_i n hn
    dsimp only
    split
    · intro x hx
      rw [List.mem_append, List.mem_singleton] at hx
      rcases hx with hx | rfl
      · exact h x hx
      · exact hP s c x hs hn
    · exact h
theorem bytes_all (W : Walk σ) (P : σ → Prop) (hP : ∀ s c t, P s → W.go s c = some t → P t) (s : σ) (hs : P s) (m : List σ) (c : Nat) (h : ∀ x ∈ m, P x) : ∀ x ∈ (W.bytes s m c).1, P x := by
  induction c with
  | zero => exact h
  | succ c ih => exact byte_all W P hP s hs c _ ih
theorem met_all (W : Walk σ) (P : σ → Prop) (hP : ∀ s c t, P s → W.go s c = some t → P t) (s : σ) (hs : P s) (i : Nat) : ∀ x ∈ W.met s i, P x := by
  induction i with
  | zero =>
    intro x hx
    have : x = s := by simpa [Walk.met, Walk.states] using hx
    rw [this]
    exact hs
  | succ i ih =>
    unfold Walk.met at *
    simp only [Walk.states]
    split
    · exact ih
    · rename_i a ha
      exact bytes_all W P hP a (ih a (List.mem_of_getElem? ha)) _ 256 ih
/-- No more of them than numbers that tell them apart. -/
theorem met_few (W : Walk σ) (hr : ∀ s, W.same s s = true) (f : σ → Nat) (n : Nat) (P : σ → Prop) (hP : ∀ s c t, P s → W.go s c = some t → P t) (s : σ) (hs : P s) (hf : ∀ x, P x → f x < n) (hi : ∀ x y, P x → P y → f x = f y → x = y) (i : Nat) : (W.met s i).length ≤ n := by
  have h1 := met_pair W s i
  have h2 := met_all W P hP s hs i
  have hn : ((W.met s i).map f).Nodup := by
    unfold List.Nodup
    rw [List.pairwise_map]
    refine List.Pairwise.imp_of_mem (fun {a b} ha hb hab e => ?_) h1
    have := hi a b (h2 a ha) (h2 b hb) e
    subst this
    rw [hr] at hab
    cases hab
  have hsub : (W.met s i).map f ⊆ List.range n := fun x hx => by
    obtain ⟨a, ha, rfl⟩ := List.mem_map.1 hx
    exact List.mem_range.2 (hf a (h2 a ha))
  have := hn.length_le_of_subset hsub
  simpa using this

end Au
end Go.Proofs.Ytpoeklgoepjikaa

/-
  Lists of states: which are automata; the least one of one; of what two take.
-/
namespace Go.Proofs.Ytpoeklgoepjikaa
namespace Au
variable {σ τ : Type}

/-- A list of states is an automaton. -/
structure Fits (d : List St) : Prop where
  pos : 0 < d.length
  top : d.length ≤ 20000
  row : ∀ i (h : i < d.length), Row d.length 256 d[i].arcs

theorem look_in {n : Nat} {l : List Arc} (h : ∀ k (h : k < l.length), 0 ≤ l[k].to ∧ l[k].to < n) {x t : Int} (hx : look l x = some t) : 0 ≤ t ∧ t < n := by
  induction l with
  | nil => cases hx
  | cons a r ih =>
    simp only [look] at hx
    split at hx
    · cases hx
      exact h 0 (by simp)
    · exact ih (fun k hk => by have := h (k + 1) (by simp; omega); simpa using this) hx
theorem ofL_top {d : List St} (hr : ∀ i (h : i < d.length), Row d.length 256 d[i].arcs) (s c : Nat) (hc : 256 ≤ c) : (ofL d).step s c = none := by
  simp only [ofL]
  split
  · rfl
  · rename_i a ha
    obtain ⟨hl, rfl⟩ := List.getElem?_eq_some_iff.1 ha
    rw [look_above (hr s hl) _ (by omega)]
    rfl
theorem ofL_in {d : List St} (hr : ∀ i (h : i < d.length), Row d.length 256 d[i].arcs) {s c t : Nat} (h : (ofL d).step s c = some t) : t < d.length := by
  simp only [ofL] at h
  split at h
  · cases h
  · rename_i a ha
    obtain ⟨hl, rfl⟩ := List.getElem?_eq_some_iff.1 ha
    cases hx : look d[s].arcs c with
    | none => rw [hx] at h; cases h
    | some u =>
      rw [hx] at h
      cases h
      have := look_in (n := d.length) (fun k hk => by have := (hr s hl).1 k hk; omega) hx
      omega

/-- The least automaton that takes the same. -/
noncomputable def least (d : List St) : List St := (ofL d).walk.out 0 d.length
theorem go_in {d : List St} (hr : ∀ i (h : i < d.length), Row d.length 256 d[i].arcs) (s c t : Nat) (_ : s < d.length) (h : (ofL d).walk.go s c = some t) : t < d.length := ofL_in hr (go_some h).1
theorem least_done {d : List St} (h0 : 0 < d.length) (hr : ∀ i (h : i < d.length), Row d.length 256 d[i].arcs) : (ofL d).walk.Done 0 d.length :=
  met_few (ofL d).walk (fair_walk _ (ofL_top hr)).refl id d.length (fun x => x < d.length) (go_in hr) 0 h0 (fun _ h => h) (fun _ _ _ _ h => h) d.length
/-- Walks that meet the same make the same. -/
theorem alike_out {A : Auto σ} {B : Auto τ} {s : σ} {t : τ} (h : Eqv A B s t) {i j : Nat} (hi : A.walk.Done s i) (hj : B.walk.Done t j) : A.walk.out s i = B.walk.out t j := by
  have h1 := (walk_alike A B).states h i
  have hd : B.walk.Done t i := by
    unfold Walk.Done Walk.met at *
    rw [← h1.1.length]
    exact hi
  have h2 := done_same B.walk t i j hd hj
  unfold Walk.out
  rw [h1.2, h2]
theorem out_pos (W : Walk σ) (s : σ) (i : Nat) : 0 < (W.met s i).length := by
  obtain ⟨r, h⟩ := met_mono W s 0 i
  rw [Nat.zero_add] at h
  rw [h]
  simp [Walk.met, Walk.states]
theorem out_rows (W : Walk σ) (hr : ∀ s, W.same s s = true) (s : σ) (i : Nat) (hd : W.Done s i) : 0 < (W.out s i).length ∧ ∀ k (h : k < (W.out s i).length), Row (W.out s i).length 256 (W.out s i)[k].arcs := by
  have hol := out_length W s i
  have h0 := out_pos W s i
  unfold Walk.Done at hd
  have hl : (W.out s i).length = (W.met s i).length := by omega
  refine ⟨by omega, fun k hk => ?_⟩
  obtain ⟨a, arcs, h1, h2, h3⟩ := states_told W hr s i k hk
  obtain ⟨_, h4⟩ := List.getElem?_eq_some_iff.1 h2
  rw [h4, hl]
  exact h3.row
theorem start_first (W : Walk σ) (s : σ) (i : Nat) : (W.met s i)[0]? = some s := by
  obtain ⟨r, h⟩ := met_mono W s 0 i
  rw [Nat.zero_add] at h
  rw [h]
  simp [Walk.met, Walk.states]
/-- It takes the same. -/
theorem Fair.eqv {W : Walk σ} {A : Auto σ} (h : Fair W A) (s : σ) (i : Nat) (hd : W.Done s i) : Eqv (ofL (W.out s i)) A 0 s := fun w => h.takes s i hd w 0 s (start_first W s i)
theorem least_eqv {d : List St} (h0 : 0 < d.length) (hr : ∀ i (h : i < d.length), Row d.length 256 d[i].arcs) : Eqv (ofL (least d)) (ofL d) 0 0 :=
  (fair_walk _ (ofL_top hr)).eqv 0 d.length (least_done h0 hr)
theorem least_le (d : List St) : (least d).length ≤ d.length := by
  have := out_length (ofL d).walk 0 d.length
  unfold least
  omega
theorem least_fits {d : List St} (h : Fits d) : Fits (least d) := by
  obtain ⟨h1, h2⟩ := out_rows (ofL d).walk (fair_walk _ (ofL_top h.row)).refl 0 d.length (least_done h.pos h.row)
  exact ⟨h1, Nat.le_trans (least_le d) h.top, h2⟩
/-- What takes the same has the same least automaton. -/
theorem least_of_eqv {A : Auto σ} {s : σ} {d : List St} (h0 : 0 < d.length) (hr : ∀ i (h : i < d.length), Row d.length 256 d[i].arcs) (h : Eqv A (ofL d) s 0) {i : Nat} (hi : A.walk.Done s i) : A.walk.out s i = least d :=
  alike_out h hi (least_done h0 hr)
theorem least_congr {d e : List St} (h0 : 0 < d.length) (hr : ∀ i (h : i < d.length), Row d.length 256 d[i].arcs) (g0 : 0 < e.length) (gr : ∀ i (h : i < e.length), Row e.length 256 e[i].arcs) (h : Eqv (ofL d) (ofL e) 0 0) : least d = least e :=
  alike_out h (least_done h0 hr) (least_done g0 gr)
theorem least_least {d : List St} (h : Fits d) : least (least d) = least d :=
  least_congr (least_fits h).pos (least_fits h).row h.pos h.row (least_eqv h.pos h.row)

/-- A walk that takes each state as itself. -/
def Auto.plain [DecidableEq σ] (A : Auto σ) : Walk σ := ⟨A.step, fun a b => decide (a = b), A.fin⟩
theorem plain_fair [DecidableEq σ] (A : Auto σ) (top : ∀ s c, 256 ≤ c → A.step s c = none) : Fair A.plain A where
  fin := fun _ => rfl
  go := fun s c => by
    show (A.step s c = none ∧ _) ∨ ∃ t, A.step s c = some t ∧ _
    cases h : A.step s c with
    | none => exact .inl ⟨rfl, acc_none A⟩
    | some t => exact .inr ⟨t, rfl, rfl⟩
  refl := fun s => decide_eq_true rfl
  same := fun s t h => by
    have := of_decide_eq_true h
    rw [this]
    exact Eqv.refl A t
  top := fun s c h w => by rw [top s c h]; exact acc_none A w

/-- Both at once. -/
def pair (A : Auto σ) (B : Auto τ) : Auto (σ × τ) where
  step := fun p c => match A.step p.1 c, B.step p.2 c with
    | some s, some t => some (s, t)
    | _, _ => none
  fin := fun p => A.fin p.1 && B.fin p.2
theorem pair_acc (A : Auto σ) (B : Auto τ) (s : σ) (t : τ) (w : List Nat) : (pair A B).acc (some (s, t)) w = (A.acc (some s) w && B.acc (some t) w) := by
  induction w generalizing s t with
  | nil => rfl
  | cons c w ih =>
    rw [acc_cons, acc_cons, acc_cons]
    simp only [pair]
    cases h1 : A.step s c with
    | none =>
      simp only [acc_none, Bool.false_and]
    | some s' =>
      cases h2 : B.step t c with
      | none => simp only [acc_none, Bool.and_false]
      | some t' => exact ih s' t'
theorem pair_top {a b : List St} (ha : ∀ i (h : i < a.length), Row a.length 256 a[i].arcs) (s : Nat × Nat) (c : Nat) (hc : 256 ≤ c) : (pair (ofL a) (ofL b)).step s c = none := by
  simp only [pair]
  rw [ofL_top ha _ _ hc]
theorem pair_few {a b : List St} (ha : ∀ i (h : i < a.length), Row a.length 256 a[i].arcs) (hb : ∀ i (h : i < b.length), Row b.length 256 b[i].arcs) (h0 : 0 < a.length) (g0 : 0 < b.length) (i : Nat) : ((pair (ofL a) (ofL b)).plain.met (0, 0) i).length ≤ a.length * b.length := by
  refine met_few _ (plain_fair _ (pair_top ha)).refl (fun p => p.1 * b.length + p.2) (a.length * b.length) (fun p => p.1 < a.length ∧ p.2 < b.length) ?_ (0, 0) ⟨h0, g0⟩ ?_ ?_ i
  · rintro ⟨s, t⟩ c ⟨s', t'⟩ _ h
    have h : (pair (ofL a) (ofL b)).step (s, t) c = some (s', t') := h
    simp only [pair] at h
    split at h
    · rename_i x y e1 e2
      cases h
      exact ⟨ofL_in ha e1, ofL_in hb e2⟩
    · cases h
  · rintro ⟨s, t⟩ ⟨h1, h2⟩
    dsimp only at *
    calc s * b.length + t < s * b.length + b.length := by omega
      _ = (s + 1) * b.length := by rw [Nat.add_mul, Nat.one_mul]
      _ ≤ _ := Nat.mul_le_mul_right _ (by omega)
  · rintro ⟨s, t⟩ ⟨s', t'⟩ ⟨h1, h2⟩ ⟨h3, h4⟩ e
    dsimp only at *
    have e1 : s = s' := by
      have h5 : (s * b.length + t) / b.length = (s' * b.length + t') / b.length := by rw [e]
      rw [Nat.mul_comm s, Nat.mul_comm s', Nat.mul_add_div g0, Nat.mul_add_div g0, Nat.div_eq_of_lt h2, Nat.div_eq_of_lt h4] at h5
      omega
    subst e1
    have : t = t' := by omega
    rw [this]

/-- The pairs that are met of two. -/
def pairs (a b : List St) : Nat := ((pair (ofL a) (ofL b)).plain.met (0, 0) (a.length * b.length)).length
/-- They, as an automaton. -/
def meets (a b : List St) : List St := (pair (ofL a) (ofL b)).plain.out (0, 0) (a.length * b.length)
theorem pairs_done {a b : List St} (ha : ∀ i (h : i < a.length), Row a.length 256 a[i].arcs) (hb : ∀ i (h : i < b.length), Row b.length 256 b[i].arcs) (h0 : 0 < a.length) (g0 : 0 < b.length) : (pair (ofL a) (ofL b)).plain.Done (0, 0) (a.length * b.length) := pair_few ha hb h0 g0 _
theorem meets_rows {a b : List St} (h : Fits a) (g : Fits b) : 0 < (meets a b).length ∧ ∀ k (h : k < (meets a b).length), Row (meets a b).length 256 (meets a b)[k].arcs :=
  out_rows _ (plain_fair _ (pair_top h.row)).refl _ _ (pairs_done h.row g.row h.pos g.pos)
theorem meets_eqv {a b : List St} (h : Fits a) (g : Fits b) : Eqv (ofL (meets a b)) (pair (ofL a) (ofL b)) 0 (0, 0) :=
  (plain_fair _ (pair_top h.row)).eqv _ _ (pairs_done h.row g.row h.pos g.pos)
theorem meets_len (a b : List St) : (meets a b).length ≤ pairs a b := by
  have := out_length (pair (ofL a) (ofL b)).plain (0, 0) (a.length * b.length)
  unfold meets pairs
  omega
/-- What both take. -/
theorem both_takes {a b : List St} (h : Fits a) (g : Fits b) (w : List Nat) : (ofL (least (meets a b))).acc (some 0) w = ((ofL a).acc (some 0) w && (ofL b).acc (some 0) w) := by
  obtain ⟨h1, h2⟩ := meets_rows h g
  rw [least_eqv h1 h2 w, meets_eqv h g w, pair_acc]
/-- Both of one and itself: its least. -/
theorem both_self {a : List St} (h : Fits a) : least (meets a a) = least a := by
  obtain ⟨h1, h2⟩ := meets_rows h h
  exact least_congr h1 h2 h.pos h.row fun w => by
    rw [meets_eqv h h w, pair_acc, Bool.and_self]

end Au
end Go.Proofs.Ytpoeklgoepjikaa

/-
  Loose automata: what they lead to by nothing, the sets of states that are met, what is taken.
-/
namespace Go.Proofs.Ytpoeklgoepjikaa
namespace Au

/-- A loose state. -/
structure Lo where
  fin : Bool
  arcs : List Arc
  free : List Int
  deriving DecidableEq

/-- A list of loose states that may be. -/
structure May (n : List Lo) : Prop where
  pos : 0 < n.length
  arc : ∀ i (h : i < n.length), ∀ a ∈ n[i].arcs, 0 ≤ a.lo ∧ a.lo ≤ a.hi ∧ a.hi ≤ 255 ∧ 0 ≤ a.to ∧ a.to < n.length
  free : ∀ i (h : i < n.length), ∀ f ∈ n[i].free, 0 ≤ f ∧ f < n.length

/-- Is a state in a set? -/
def has (S : List Bool) (i : Nat) : Prop := S[i]? = some true
/-- What a state leads to by nothing, on and on. -/
inductive Star (n : List Lo) (i : Nat) : Nat → Prop
  | refl : Star n i i
  | step {j : Nat} {s : Lo} {f : Int} : Star n i j → n[j]? = some s → f ∈ s.free → Star n i f.toNat
theorem Star.trans {n : List Lo} {i j k : Nat} (h : Star n i j) (g : Star n j k) : Star n i k := by
  induction g with
  | refl => exact h
  | step _ h1 h2 ih => exact .step ih h1 h2

open Classical in
/-- The set of what is so. -/
noncomputable def setOf (m : Nat) (P : Nat → Prop) : List Bool := (List.range m).map (fun i => decide (P i))
theorem setOf_length (m : Nat) (P : Nat → Prop) : (setOf m P).length = m := by simp [setOf]
theorem has_setOf (m : Nat) (P : Nat → Prop) (i : Nat) : has (setOf m P) i ↔ i < m ∧ P i := by
  unfold has setOf
  rw [List.getElem?_map]
  by_cases h : i < m
  · rw [List.getElem?_range h]
    simp [h]
  · rw [List.getElem?_eq_none (by simp; omega)]
    simp [h]
/-- Two sets of one length that have the same are one. -/
theorem set_ext {S T : List Bool} (hl : S.length = T.length) (h : ∀ i, has S i ↔ has T i) : S = T := by
  apply List.ext_getElem? 
  intro i
  have hi := h i
  unfold has at hi
  cases hs : S[i]? with
  | none =>
    have : T.length ≤ i := by rw [← hl]; exact List.getElem?_eq_none_iff.1 hs
    exact (List.getElem?_eq_none this).symm
  | some a =>
    have h1 : i < T.length := by rw [← hl]; exact (List.getElem?_eq_some_iff.1 hs).1
    rw [List.getElem?_eq_getElem h1]
    rw [hs, List.getElem?_eq_getElem h1] at hi
    congr 1
    cases a <;> cases hb : T[i] <;> simp_all

/-- A set, and what it leads to by nothing. -/
noncomputable def spread (n : List Lo) (S : List Bool) : List Bool := setOf n.length (fun i => ∃ j, has S j ∧ Star n j i)
/-- What one byte leads a set to. -/
def leads (n : List Lo) (S : List Bool) (c : Nat) (j : Nat) : Prop := ∃ k s a, has S k ∧ n[k]? = some s ∧ a ∈ s.arcs ∧ a.lo ≤ (c : Int) ∧ (c : Int) ≤ a.hi ∧ a.to.toNat = j
noncomputable def over (n : List Lo) (S : List Bool) (c : Nat) : List Bool := spread n (setOf n.length (leads n S c))
/-- The start's set. -/
noncomputable def first (n : List Lo) : List Bool := spread n (setOf n.length (fun i => i = 0))
open Classical in
/-- Is one of a set final? -/
noncomputable def ends (n : List Lo) (S : List Bool) : Bool := decide (∃ i s, has S i ∧ n[i]? = some s ∧ s.fin = true)
open Classical in
/-- Is a set empty? -/
noncomputable def empty (S : List Bool) : Bool := decide (∀ i, ¬ has S i)
theorem empty_iff (S : List Bool) : empty S = true ↔ ∀ i, ¬ has S i := by simp [empty]
theorem ends_iff (n : List Lo) (S : List Bool) : ends n S = true ↔ ∃ i s, has S i ∧ n[i]? = some s ∧ s.fin = true := by simp [ends]

theorem spread_length (n : List Lo) (S : List Bool) : (spread n S).length = n.length := setOf_length _ _
theorem over_length (n : List Lo) (S : List Bool) (c : Nat) : (over n S c).length = n.length := setOf_length _ _
theorem first_length (n : List Lo) : (first n).length = n.length := setOf_length _ _
theorem spread_empty (n : List Lo) (S : List Bool) (h : ∀ i, ¬ has S i) : ∀ i, ¬ has (spread n S) i := by
  intro i hi
  obtain ⟨_, j, hj, _⟩ := (has_setOf _ _ _).1 hi
  exact h j hj
theorem over_empty (n : List Lo) (S : List Bool) (c : Nat) (h : ∀ i, ¬ has S i) : ∀ i, ¬ has (over n S c) i := by
  apply spread_empty
  intro i hi
  obtain ⟨_, k, s, a, hk, _⟩ := (has_setOf _ _ _).1 hi
  exact h k hk

/-- The automaton of the sets that are not empty. -/
noncomputable def sub (n : List Lo) : Auto (List Bool) where
  step := fun S c => if empty (over n S c) = true then none else some (over n S c)
  fin := ends n
/-- What a loose automaton takes. -/
noncomputable def takes (n : List Lo) (S : List Bool) (w : List Nat) : Bool := ends n (w.foldl (over n) S)
theorem takes_empty (n : List Lo) (S : List Bool) (h : ∀ i, ¬ has S i) (w : List Nat) : takes n S w = false := by
  induction w generalizing S with
  | nil =>
    unfold takes
    rw [← Bool.not_eq_true, List.foldl_nil, ends_iff]
    rintro ⟨i, s, hi, _⟩
    exact h i hi
  | cons c w ih => exact ih (over n S c) (over_empty n S c h)
theorem sub_takes (n : List Lo) (S : List Bool) (w : List Nat) : (sub n).acc (some S) w = takes n S w := by
  induction w generalizing S with
  | nil => rfl
  | cons c w ih =>
    rw [acc_cons]
    change (sub n).acc (if empty (over n S c) = true then none else some (over n S c)) w = takes n (over n S c) w
    by_cases h : empty (over n S c) = true
    · rw [if_pos h, acc_none, takes_empty n _ ((empty_iff _).1 h)]
    · rw [if_neg h]
      exact ih _
theorem sub_top {n : List Lo} (hn : May n) (S : List Bool) (c : Nat) (hc : 256 ≤ c) : (sub n).step S c = none := by
  change (if empty (over n S c) = true then none else some (over n S c)) = none
  rw [if_pos]
  rw [empty_iff]
  apply spread_empty
  intro i hi
  obtain ⟨_, k, s, a, hk, hs, ha, _, h2, _⟩ := (has_setOf _ _ _).1 hi
  obtain ⟨hl, rfl⟩ := List.getElem?_eq_some_iff.1 hs
  have := hn.arc k hl a ha
  omega

/-- No more sets than so many are met. -/
def Few (n : List Lo) (most : Int) (i : Nat) : Prop := (sub n).plain.Done (first n) i ∧ ((sub n).plain.met (first n) i).length ≤ most
open Classical in
/-- The least automaton of a loose one, if no more sets are met. -/
noncomputable def tight (n : List Lo) (most : Int) : Option (List St) := if h : ∃ i, Few n most i then some (least ((sub n).plain.out (first n) (Classical.choose h))) else none
theorem tight_some {n : List Lo} {most : Int} {i : Nat} (h : Few n most i) : tight n most = some (least ((sub n).plain.out (first n) i)) := by
  unfold tight
  have hx : ∃ i, Few n most i := ⟨i, h⟩
  rw [dif_pos hx]
  have := done_same (sub n).plain (first n) _ i (Classical.choose_spec hx).1 h.1
  unfold Walk.out
  rw [this]
theorem met_le {σ : Type} (W : Walk σ) (s : σ) (i j : Nat) (hj : W.Done s j) : (W.met s i).length ≤ (W.met s j).length := by
  rcases Nat.le_total i j with h | h
  · obtain ⟨d, rfl⟩ : ∃ d, j = i + d := ⟨j - i, by omega⟩
    obtain ⟨r, hr⟩ := met_mono W s i d
    rw [hr, List.length_append]
    omega
  · obtain ⟨d, rfl⟩ : ∃ d, i = j + d := ⟨i - j, by omega⟩
    unfold Walk.met
    rw [done_stays W s j d hj]
    exact Nat.le_refl _
theorem tight_none {n : List Lo} {most : Int} (i : Nat) (h : most < ((sub n).plain.met (first n) i).length) : tight n most = none := by
  unfold tight
  rw [dif_neg]
  rintro ⟨j, hj1, hj2⟩
  have := met_le (sub n).plain (first n) i j hj1
  omega
theorem bytes_le {σ : Type} (W : Walk σ) (s : σ) (m : List σ) (c d : Nat) : (W.bytes s m c).1.length ≤ (W.bytes s m (c + d)).1.length := by
  induction d with
  | zero => exact Nat.le_refl _
  | succ d ih =>
    obtain ⟨r, h⟩ := byte_grows W s (c + d) (W.bytes s m (c + d))
    rw [← Nat.add_assoc, Walk.bytes, h, List.length_append]
    omega
/-- Too many within a row. -/
theorem tight_row {n : List Lo} {most : Int} (i c : Nat) (hc : c ≤ 256) (a : List Bool) (ha : ((sub n).plain.met (first n) i)[i]? = some a) (h : most < ((sub n).plain.bytes a ((sub n).plain.met (first n) i) c).1.length) : tight n most = none := by
  apply tight_none (i + 1)
  have e : (sub n).plain.met (first n) (i + 1) = ((sub n).plain.bytes a ((sub n).plain.met (first n) i) 256).1 := by
    unfold Walk.met at *
    simp only [Walk.states]
    rw [ha]
  rw [e]
  obtain ⟨d, hd⟩ : ∃ d, 256 = c + d := ⟨256 - c, by omega⟩
  have := bytes_le (sub n).plain a ((sub n).plain.met (first n) i) c d
  rw [← hd] at this
  omega
/-- The tight automaton's rows, and what it takes. -/
theorem few_rows {n : List Lo} (hn : May n) {most : Int} {i : Nat} (h : Few n most i) : 0 < ((sub n).plain.out (first n) i).length ∧ ∀ k (h : k < ((sub n).plain.out (first n) i).length), Row ((sub n).plain.out (first n) i).length 256 ((sub n).plain.out (first n) i)[k].arcs :=
  out_rows _ (plain_fair _ (sub_top hn)).refl _ _ h.1
theorem few_eqv {n : List Lo} (hn : May n) {most : Int} {i : Nat} (h : Few n most i) : Eqv (ofL ((sub n).plain.out (first n) i)) (sub n) 0 (first n) := (plain_fair _ (sub_top hn)).eqv _ _ h.1
theorem few_len {n : List Lo} {most : Int} {i : Nat} (h : Few n most i) : (((sub n).plain.out (first n) i).length : Int) ≤ most := by
  have := out_length (sub n).plain (first n) i
  have := h.2
  omega
theorem tight_takes {n : List Lo} (hn : May n) {most : Int} {d : List St} (h : tight n most = some d) (w : List Nat) : (ofL d).acc (some 0) w = takes n (first n) w := by
  have hx : ∃ i, Few n most i := by
    unfold tight at h
    split at h
    · assumption
    · cases h
  obtain ⟨i, hi⟩ := hx
  rw [tight_some hi] at h
  cases h
  obtain ⟨h1, h2⟩ := few_rows hn hi
  rw [least_eqv h1 h2 w, few_eqv hn hi w, sub_takes]
theorem tight_fits {n : List Lo} (hn : May n) {most : Int} (hm : most ≤ 20000) {d : List St} (h : tight n most = some d) : Fits d := by
  have hx : ∃ i, Few n most i := by
    unfold tight at h
    split at h
    · assumption
    · cases h
  obtain ⟨i, hi⟩ := hx
  rw [tight_some hi] at h
  cases h
  obtain ⟨h1, h2⟩ := few_rows hn hi
  have h3 := few_len hi
  exact least_fits ⟨h1, by omega, h2⟩
/-- What takes the same as a loose one has the tight one's least. -/
theorem tight_is {n : List Lo} (hn : May n) {most : Int} {i : Nat} (hi : Few n most i) {d : List St} (h0 : 0 < d.length) (hr : ∀ i (h : i < d.length), Row d.length 256 d[i].arcs) (h : Eqv (ofL d) (sub n) 0 (first n)) : tight n most = some (least d) := by
  obtain ⟨h1, h2⟩ := few_rows hn hi
  rw [tight_some hi]
  exact congrArg some (least_congr h1 h2 h0 hr ((few_eqv hn hi).trans h.symm))

end Au
end Go.Proofs.Ytpoeklgoepjikaa

/-
  Automata in memory: slices of arcs, of states, of loose states, wherever they lie.
-/
namespace Go.Proofs.Ytpoeklgoepjikaa
open Go.RowKit

theorem belowN {B : Nat} {a w : World} (h : Below B a w) (n : Nat) : Below B a (w.drewN n) := h.trans ⟨rfl, rfl, rfl, Nat.le_refl _, fun _ _ => rfl⟩
theorem chain {w w2 w3 : World} (h : Below w.heap.size w w2) (hb : Below w2.heap.size w2 w3) : Below w.heap.size w w3 := h.trans (hb.mono h.size)
theorem cell_same {w w' : World} {a : Addr} (h : w'.heap[a.block]? = w.heap[a.block]?) : w'.cell? a = w.cell? a := World.cell?_of_block (w := w) h

/-- The value v is a slice of these arcs, in a block of F. -/
def ArcS (F : Nat → Prop) (w : World) (v : Value) (l : List Au.Arc) : Prop :=
  ∃ a cap, v = .slice a l.length cap ∧ l.length ≤ cap ∧ cap ≤ 9223372036854775807 ∧ (0 < l.length → ∃ g o, a = some ⟨g, o, none⟩ ∧ g < w.heap.size ∧ F g ∧
    ∀ j (_ : j < l.length), w.cell? ⟨g, o + j * 3, none⟩ = some (.int .i64 l[j].lo) ∧ w.cell? ⟨g, o + j * 3 + 1, none⟩ = some (.int .i64 l[j].hi) ∧ w.cell? ⟨g, o + j * 3 + 2, none⟩ = some (.int .i64 l[j].to))
theorem ArcS.keep {F : Nat → Prop} {w w' : World} {v : Value} {l : List Au.Arc} (h : ArcS F w v l) (hs : w.heap.size ≤ w'.heap.size) (e : ∀ g, F g → g < w.heap.size → w'.heap[g]? = w.heap[g]?) : ArcS F w' v l := by
  obtain ⟨a, cap, h1, h2, h3, h4⟩ := h
  refine ⟨a, cap, h1, h2, h3, fun h0 => ?_⟩
  obtain ⟨g, o, h5, h6, h7, h8⟩ := h4 h0
  have hb := e g h7 h6
  refine ⟨g, o, h5, Nat.lt_of_lt_of_le h6 hs, h7, fun j hj => ?_⟩
  obtain ⟨a1, a2, a3⟩ := h8 j hj
  exact ⟨(cell_same hb).trans a1, (cell_same hb).trans a2, (cell_same hb).trans a3⟩
theorem ArcS.wide {F G : Nat → Prop} {w : World} {v : Value} {l : List Au.Arc} (h : ArcS F w v l) (hm : ∀ g, g < w.heap.size → F g → G g) : ArcS G w v l := by
  obtain ⟨a, cap, h1, h2, h3, h4⟩ := h
  refine ⟨a, cap, h1, h2, h3, fun h0 => ?_⟩
  obtain ⟨g, o, h5, h6, h7, h8⟩ := h4 h0
  exact ⟨g, o, h5, h6, hm g h6 h7, h8⟩
/-- The value v is a slice of these numbers, in a block of F. -/
def NumS (F : Nat → Prop) (w : World) (v : Value) (l : List Int) : Prop :=
  ∃ a cap, v = .slice a l.length cap ∧ l.length ≤ cap ∧ cap ≤ 9223372036854775807 ∧ (0 < l.length → ∃ g o, a = some ⟨g, o, none⟩ ∧ g < w.heap.size ∧ F g ∧ ∀ j (_ : j < l.length), w.cell? ⟨g, o + j, none⟩ = some (.int .i64 l[j]))
theorem NumS.keep {F : Nat → Prop} {w w' : World} {v : Value} {l : List Int} (h : NumS F w v l) (hs : w.heap.size ≤ w'.heap.size) (e : ∀ g, F g → g < w.heap.size → w'.heap[g]? = w.heap[g]?) : NumS F w' v l := by
  obtain ⟨a, cap, h1, h2, h3, h4⟩ := h
  refine ⟨a, cap, h1, h2, h3, fun h0 => ?_⟩
  obtain ⟨g, o, h5, h6, h7, h8⟩ := h4 h0
  have hb := e g h7 h6
  exact ⟨g, o, h5, Nat.lt_of_lt_of_le h6 hs, h7, fun j hj => (cell_same hb).trans (h8 j hj)⟩
/-- The value v is a slice of these states, all of it in blocks of F. -/
def StS (F : Nat → Prop) (w : World) (v : Value) (d : List Au.St) : Prop :=
  ∃ a cap, v = .slice a d.length cap ∧ d.length ≤ cap ∧ cap ≤ 9223372036854775807 ∧ (0 < d.length → ∃ g o, a = some ⟨g, o, none⟩ ∧ g < w.heap.size ∧ F g ∧
    ∀ j (_ : j < d.length), w.cell? ⟨g, o + j * 2, none⟩ = some (.bool d[j].fin) ∧ ∃ va, w.cell? ⟨g, o + j * 2 + 1, none⟩ = some va ∧ ArcS F w va d[j].arcs)
theorem StS.keep {F : Nat → Prop} {w w' : World} {v : Value} {d : List Au.St} (h : StS F w v d) (hs : w.heap.size ≤ w'.heap.size) (e : ∀ g, F g → g < w.heap.size → w'.heap[g]? = w.heap[g]?) : StS F w' v d := by
  obtain ⟨a, cap, h1, h2, h3, h4⟩ := h
  refine ⟨a, cap, h1, h2, h3, fun h0 => ?_⟩
  obtain ⟨g, o, h5, h6, h7, h8⟩ := h4 h0
  have hb := e g h7 h6
  refine ⟨g, o, h5, Nat.lt_of_lt_of_le h6 hs, h7, fun j hj => ?_⟩
  obtain ⟨a1, va, a2, a3⟩ := h8 j hj
  exact ⟨(cell_same hb).trans a1, va, (cell_same hb).trans a2, a3.keep hs e⟩
theorem StS.wide {F G : Nat → Prop} {w : World} {v : Value} {d : List Au.St} (h : StS F w v d) (hm : ∀ g, g < w.heap.size → F g → G g) : StS G w v d := by
  obtain ⟨a, cap, h1, h2, h3, h4⟩ := h
  refine ⟨a, cap, h1, h2, h3, fun h0 => ?_⟩
  obtain ⟨g, o, h5, h6, h7, h8⟩ := h4 h0
  refine ⟨g, o, h5, h6, hm g h6 h7, fun j hj => ?_⟩
  obtain ⟨a1, va, a2, a3⟩ := h8 j hj
  exact ⟨a1, va, a2, a3.wide hm⟩
/-- The value v is a slice of these loose states. -/
def LoS (F : Nat → Prop) (w : World) (v : Value) (n : List Au.Lo) : Prop :=
  ∃ a cap, v = .slice a n.length cap ∧ n.length ≤ cap ∧ cap ≤ 9223372036854775807 ∧ (0 < n.length → ∃ g o, a = some ⟨g, o, none⟩ ∧ g < w.heap.size ∧ F g ∧
    ∀ j (_ : j < n.length), w.cell? ⟨g, o + j * 3, none⟩ = some (.bool n[j].fin) ∧ (∃ va, w.cell? ⟨g, o + j * 3 + 1, none⟩ = some va ∧ ArcS F w va n[j].arcs) ∧ ∃ vf, w.cell? ⟨g, o + j * 3 + 2, none⟩ = some vf ∧ NumS F w vf n[j].free)
theorem LoS.keep {F : Nat → Prop} {w w' : World} {v : Value} {d : List Au.Lo} (h : LoS F w v d) (hs : w.heap.size ≤ w'.heap.size) (e : ∀ g, F g → g < w.heap.size → w'.heap[g]? = w.heap[g]?) : LoS F w' v d := by
  obtain ⟨a, cap, h1, h2, h3, h4⟩ := h
  refine ⟨a, cap, h1, h2, h3, fun h0 => ?_⟩
  obtain ⟨g, o, h5, h6, h7, h8⟩ := h4 h0
  have hb := e g h7 h6
  refine ⟨g, o, h5, Nat.lt_of_lt_of_le h6 hs, h7, fun j hj => ?_⟩
  obtain ⟨a1, ⟨va, a2, a3⟩, vf, a4, a5⟩ := h8 j hj
  exact ⟨(cell_same hb).trans a1, ⟨va, (cell_same hb).trans a2, a3.keep hs e⟩, vf, (cell_same hb).trans a4, a5.keep hs e⟩
theorem StS.below {F : Nat → Prop} {w w' : World} {v : Value} {d : List Au.St} (h : StS F w v d) (hb : Below w.heap.size w w') : StS F w' v d := h.keep hb.size fun g _ hg => hb.block g hg
theorem LoS.below {F : Nat → Prop} {w w' : World} {v : Value} {d : List Au.Lo} (h : LoS F w v d) (hb : Below w.heap.size w w') : LoS F w' v d := h.keep hb.size fun g _ hg => hb.block g hg
theorem ArcS.below {F : Nat → Prop} {w w' : World} {v : Value} {l : List Au.Arc} (h : ArcS F w v l) (hb : Below w.heap.size w w') : ArcS F w' v l := h.keep hb.size fun g _ hg => hb.block g hg
theorem NumS.below {F : Nat → Prop} {w w' : World} {v : Value} {l : List Int} (h : NumS F w v l) (hb : Below w.heap.size w w') : NumS F w' v l := h.keep hb.size fun g _ hg => hb.block g hg

namespace Au
/-- Where a byte leads, as 8.1 tells it: -1 to none. -/
def step (d : List St) (s c : Int) : Int := if s < 0 ∨ (d.length : Int) ≤ s then -1 else match d[s.toNat]? with
  | some a => (look a.arcs c).getD (-1)
  | none => -1
end Au
end Go.Proofs.Ytpoeklgoepjikaa

/-
  Slices of bools in memory, wherever they lie or the call's own; append onto them.
-/
namespace Go.Proofs.Ytpoeklgoepjikaa
open Go.RowKit

theorem Try.infoBo : (Try.prog.info? 4).map (fun i => (i.zero, i.size, i.bytes)) = some (some (.bool false), 1, 1) := by kernel_rfl

/-- Numbers as cells. -/
def boolsV (l : List Bool) : List Value := l.map (fun c => .bool c)

theorem boolsV_snoc (l : List Bool) (c : Bool) : boolsV l ++ [.bool c] = boolsV (l ++ [c]) := by simp [boolsV]

theorem boolsV_append (l r : List Bool) : boolsV l ++ boolsV r = boolsV (l ++ r) := by simp [boolsV]

theorem boolsV_length (l : List Bool) : (boolsV l).length = l.length := by simp [boolsV]

/-- The slice v is the call's own, from block B on, and holds these numbers. -/
def OwnBo (w : World) (B : Nat) (v : Value) (l : List Bool) : Prop := w.ownsRow B 4 1 v l.length (boolsV l)

/-- Behind an append of one number. -/
theorem ownBo_push {w wr w1 : World} {B : Nat} {v v' : Value} {l : List Bool} {c : Bool} {o : Obj} (hB : B ≤ wr.heap.size) (h : OwnBo wr B v l) (hb : Below B w wr)
    (h1 : w1.ownsRow B 4 1 v' (l.length + 1) (boolsV l ++ [.bool c])) (hg : (wr.alloc o).grownBy w1 v.ownBlock) :
    OwnBo w1 B v' (l ++ [c]) ∧ Below B w w1 := by
  have hown : wr.ownsRow B 4 1 v l.length (boolsV l) := h
  refine ⟨?_, (hb.alloc hB o).grown hg (by simp; omega) (fun j hj => (hown.lt j hj).1)⟩
  unfold OwnBo
  rw [boolsV_snoc] at h1
  simpa using h1

/-- An own slice, its cells told one by one. -/
theorem ownBo_cells {w : World} {B : Nat} {v : Value} {l : List Bool} (h : OwnBo w B v l) : ∃ a cap, v = .slice a l.length cap ∧ (0 < l.length → ∃ g, a = some ⟨g, 0, none⟩ ∧ g < w.heap.size ∧ ∀ j (hj : j < l.length), w.cell? ⟨g, j, none⟩ = some (.bool l[j])) := by
  have hown : w.ownsRow B 4 1 v l.length (boolsV l) := h
  rcases h.2 with ⟨rfl, h0⟩ | ⟨g, cap, cur, rfl, hg, hh, hnc, hcp, hcs, htake⟩
  · exact ⟨none, 0, by rw [h0], fun h => by omega⟩
  · refine ⟨_, _, rfl, fun h => ⟨g, rfl, (hown.lt g rfl).2, fun j hj => ?_⟩⟩
    rw [hown.cellAt j (by omega)]
    simp [boolsV, hj]

/-- The value v is a slice of these numbers. -/
def BitS (w : World) (v : Value) (xs : List Bool) : Prop :=
  ∃ a cap, v = .slice a xs.length cap ∧ xs.length ≤ cap ∧ cap ≤ 9223372036854775807 ∧ (0 < xs.length → ∃ g o, a = some ⟨g, o, none⟩ ∧ g < w.heap.size ∧ ∀ j (_ : j < xs.length), w.cell? ⟨g, o + j, none⟩ = some (.bool xs[j]))

theorem BitS.below {w w' : World} {B : Nat} {v : Value} {xs : List Bool} (h : BitS w v xs) (hb : Below B w w') (hB : w.heap.size ≤ B) : BitS w' v xs := by
  obtain ⟨a, cap, h1, h2, h3, h4⟩ := h
  refine ⟨a, cap, h1, h2, h3, fun h0 => ?_⟩
  obtain ⟨g, o, h5, h6, h7⟩ := h4 h0
  exact ⟨g, o, h5, Nat.lt_of_lt_of_le h6 hb.size, fun j hj => (hb.cell (p := ⟨g, o + j, none⟩) (Nat.lt_of_lt_of_le h6 hB)).trans (h7 j hj)⟩

theorem OwnBo.ints {w : World} {B : Nat} {v : Value} {l : List Bool} (h : OwnBo w B v l) (_ : l.length ≤ 140737488355328) : BitS w v l := by
  rcases h.2 with ⟨rfl, h0⟩ | ⟨g, cap, cur, rfl, hg, hh, hnc, hcp, hcs, htake⟩
  · exact ⟨none, 0, by rw [h0], by omega, by omega, fun h => by omega⟩
  · have hown : w.ownsRow B 4 1 (.slice (some ⟨g, 0, none⟩) l.length cap) l.length (boolsV l) := h
    refine ⟨_, cap, rfl, hnc, by unfold maxLen at hcp; omega, fun h => ⟨g, 0, rfl, (hown.lt g rfl).2, fun j hj => ?_⟩⟩
    rw [Nat.zero_add, hown.cellAt j (by omega)]
    simp [boolsV, hj]

/-- Behind an append of numbers that lie elsewhere. -/
theorem ownBo_pushAll {w wr w1 : World} {B : Nat} {v v' : Value} {l r : List Bool} (hB : B ≤ wr.heap.size) (h : OwnBo wr B v l) (hb : Below B w wr)
    (h1 : w1.ownsRow B 4 1 v' (l.length + r.length) (boolsV l ++ boolsV r)) (hg : wr.grownBy w1 v.ownBlock) :
    OwnBo w1 B v' (l ++ r) ∧ Below B w w1 := by
  have hown : wr.ownsRow B 4 1 v l.length (boolsV l) := h
  refine ⟨?_, hb.grown hg hB (fun j hj => (hown.lt j hj).1)⟩
  unfold OwnBo
  rw [boolsV_append] at h1
  simpa using h1

/-- 'append(v, c)' of one number, which lies in a new block. -/
theorem wpList_pushBo {ops : Array Oper} {rest : List Oper} {o : Oper} {a : Act} {Q : Exit → Act → World → Prop} {w : World} (hgd : o.guard = none) (s x : Operand)
    (ho : o.op = .call { callee := .builtin .append, args := #[s, x], argTypes := #[50, 50] })
    (B : Nat) (hB : B ≤ w.heap.size) (v : Value) (l : List Bool) (c : Bool) (hs : a.eval s = v) (h : OwnBo w B v l) (hx : a.eval x = .slice (some ⟨w.heap.size, 0, none⟩) 1 1)
    (hb : l.length + 1 ≤ 17592186044416)
    (hk : ∀ v' w', OwnBo w' B v' (l ++ [c]) → Below B w w' → (w.alloc (.cells #[.bool c] 4)).grownBy w' v.ownBlock → wpList Try.prog ops Q rest (a.put o.dst v') w') :
    wpList Try.prog ops Q (o :: rest) a (w.alloc (.cells #[.bool c] 4)) := by
  obtain ⟨ii, hi, hz0, hz1, hz2⟩ := info_parts Try.infoBo
  have hown : w.ownsRow B 4 1 v l.length (boolsV l) := h
  refine wpList_append_own _ hgd s x 50 ho B 4 ii (.bool false) 1 1 Try.underlying50 hi hz0 hz1 hz2 rfl (by decide) _ _ _ hs (hown.alloc _) ⟨w.heap.size, 0, none⟩ 1 1 [.bool c] hx rfl ?_ ?_ (by unfold maxLen; omega) (by omega) (by simp; omega) ?_
  · intro j u hj
    match j, hj with
    | 0, hj => simp at hj; subst hj; simp [Addr.add]
  · intro u hu
    simp at hu
    subst hu
    rfl
  · intro v' w' h1 h2 _
    obtain ⟨h3, h4⟩ := ownBo_push hB h (Below.refl B w) h1 h2
    exact hk v' w' h3 h4 h2

/-- 'append(v, r...)' of numbers that lie elsewhere. -/
theorem wpList_appBo {ops : Array Oper} {rest : List Oper} {o : Oper} {a : Act} {Q : Exit → Act → World → Prop} {w : World} (hgd : o.guard = none) (s x : Operand)
    (ho : o.op = .call { callee := .builtin .append, args := #[s, x], argTypes := #[50, 50] })
    (B : Nat) (hB : B ≤ w.heap.size) (v : Value) (l r : List Bool) (hs : a.eval s = v) (h : OwnBo w B v l) (ad : Addr) (c : Nat) (hx : a.eval x = .slice (some ad) r.length c)
    (hr : BitS w (.slice (some ad) r.length c) r) (hb : l.length + r.length ≤ 17592186044416)
    (hk : ∀ v' w', OwnBo w' B v' (l ++ r) → Below B w w' → wpList Try.prog ops Q rest (a.put o.dst v') w') :
    wpList Try.prog ops Q (o :: rest) a w := by
  obtain ⟨ii, hi, hz0, hz1, hz2⟩ := info_parts Try.infoBo
  have hown : w.ownsRow B 4 1 v l.length (boolsV l) := h
  refine wpList_append_own _ hgd s x 50 ho B 4 ii (.bool false) 1 1 Try.underlying50 hi hz0 hz1 hz2 rfl (by decide) _ _ _ hs hown ad r.length c (boolsV r) hx (by rw [boolsV_length, Nat.mul_one]) ?_ ?_ (by unfold maxLen; omega) (by omega) hB ?_
  · intro j u hj
    have hjr : j < r.length := by
      have := (List.getElem?_eq_some_iff.1 hj).1
      simpa [boolsV] using this
    obtain ⟨a', cap', hv, _, _, hc⟩ := hr
    obtain ⟨g, o', ha, _, hcl⟩ := hc (by omega)
    simp only [Value.slice.injEq] at hv
    obtain ⟨hv1, _, _⟩ := hv
    rw [← hv1] at ha
    obtain rfl := Option.some.inj ha
    rw [Addr.add_lit, hcl j hjr]
    simp [boolsV, hjr] at hj
    rw [← hj]
  · intro u hu
    obtain ⟨x, _, rfl⟩ := List.mem_map.1 hu
    rfl
  · intro v' w' h1 h2 _
    obtain ⟨h3, h4⟩ := ownBo_pushAll hB h (Below.refl B w) h1 h2
    exact hk v' w' h3 h4

/-- The value v is a slice of these bools, in a block of F. -/
def SetS (F : Nat → Prop) (w : World) (v : Value) (l : List Bool) : Prop :=
  ∃ a cap, v = .slice a l.length cap ∧ l.length ≤ cap ∧ cap ≤ 9223372036854775807 ∧ (0 < l.length → ∃ g o, a = some ⟨g, o, none⟩ ∧ g < w.heap.size ∧ F g ∧ ∀ j (_ : j < l.length), w.cell? ⟨g, o + j, none⟩ = some (.bool l[j]))
theorem SetS.keep {F : Nat → Prop} {w w' : World} {v : Value} {l : List Bool} (h : SetS F w v l) (hs : w.heap.size ≤ w'.heap.size) (e : ∀ g, F g → g < w.heap.size → w'.heap[g]? = w.heap[g]?) : SetS F w' v l := by
  obtain ⟨a, cap, h1, h2, h3, h4⟩ := h
  refine ⟨a, cap, h1, h2, h3, fun h0 => ?_⟩
  obtain ⟨g, o, h5, h6, h7, h8⟩ := h4 h0
  have hb := e g h7 h6
  exact ⟨g, o, h5, Nat.lt_of_lt_of_le h6 hs, h7, fun j hj => (cell_same hb).trans (h8 j hj)⟩
theorem SetS.below {F : Nat → Prop} {w w' : World} {v : Value} {l : List Bool} (h : SetS F w v l) (hb : Below w.heap.size w w') : SetS F w' v l := h.keep hb.size fun g _ hg => hb.block g hg
theorem SetS.wide {F G : Nat → Prop} {w : World} {v : Value} {l : List Bool} (h : SetS F w v l) (hm : ∀ g, g < w.heap.size → F g → G g) : SetS G w v l := by
  obtain ⟨a, cap, h1, h2, h3, h4⟩ := h
  refine ⟨a, cap, h1, h2, h3, fun h0 => ?_⟩
  obtain ⟨g, o, h5, h6, h7, h8⟩ := h4 h0
  exact ⟨g, o, h5, h6, hm g h6 h7, h8⟩
theorem SetS.bits {F : Nat → Prop} {w : World} {v : Value} {l : List Bool} (h : SetS F w v l) : BitS w v l := by
  obtain ⟨a, cap, h1, h2, h3, h4⟩ := h
  refine ⟨a, cap, h1, h2, h3, fun h0 => ?_⟩
  obtain ⟨g, o, h5, h6, _, h8⟩ := h4 h0
  exact ⟨g, o, h5, h6, h8⟩
/-- Block g is the call's own row, which begins with these bools. -/
def RowB (w : World) (g : Nat) (cap : Nat) (S : List Bool) : Prop := ∃ cur : Array Value, w.heap[g]? = some (.cells cur 4 (0, 0)) ∧ cur.size = cap ∧ S.length ≤ cap ∧ ∀ j (_ : j < S.length), cur[j]? = some (.bool S[j])
theorem RowB.lt {w : World} {g cap : Nat} {S : List Bool} (h : RowB w g cap S) : g < w.heap.size := by
  obtain ⟨cur, h1, _⟩ := h
  exact (Array.getElem?_eq_some_iff.1 h1).1
theorem RowB.cell {w : World} {g cap : Nat} {S : List Bool} (h : RowB w g cap S) {j : Nat} (hj : j < S.length) : w.cell? ⟨g, j, none⟩ = some (.bool S[j]) := by
  obtain ⟨cur, h1, _, _, h2⟩ := h
  simp only [World.cell?, h1]
  exact h2 j hj
theorem RowB.frozen {w : World} {g cap : Nat} {S : List Bool} (h : RowB w g cap S) (j : Nat) : w.frozen? ⟨g, j, none⟩ = false := by
  obtain ⟨cur, h1, _⟩ := h
  simp [World.frozen?, h1]
theorem RowB.other {w w' : World} {g cap : Nat} {S : List Bool} (h : RowB w g cap S) (e : w'.heap[g]? = w.heap[g]?) : RowB w' g cap S := by
  obtain ⟨cur, h1, h2⟩ := h
  exact ⟨cur, e.trans h1, h2⟩
theorem RowB.set {w : World} {g cap : Nat} {S : List Bool} (h : RowB w g cap S) (i : Nat) (b : Bool) : RowB (w.setCell ⟨g, i, none⟩ (.bool b)) g cap (S.set i b) := by
  obtain ⟨cur, h1, h2, h3, h4⟩ := h
  refine ⟨cur.setIfInBounds i (.bool b), ?_, by simpa using h2, by simpa using h3, fun j hj => ?_⟩
  · rw [setCell_eq_setRow w g i cur _ _ _ h1]
    exact setRow_heap w g cur _ _ _ h1
  · rw [List.length_set] at hj
    rw [List.getElem_set]
    by_cases e : i = j
    · subst e
      rw [if_pos rfl, Array.getElem?_setIfInBounds_self_of_lt (by omega)]
    · rw [if_neg e, Array.getElem?_setIfInBounds_ne e]
      exact h4 j hj
theorem RowB.set_other {w : World} {g cap : Nat} {S : List Bool} (h : RowB w g cap S) {a : Addr} (ha : g ≠ a.block) (v : Value) : RowB (w.setCell a v) g cap S := h.other (Go.Deep.blk_setCell_other _ _ _ _ ha)
theorem RowB.slice {w : World} {g cap : Nat} {S : List Bool} (h : RowB w g cap S) (hc : cap ≤ 9223372036854775807) (F : Nat → Prop) (hF : F g) : SetS F w (.slice (some ⟨g, 0, none⟩) S.length cap) S := by
  obtain ⟨cur, h1, h2, h3, h4⟩ := id h
  exact ⟨_, cap, rfl, h3, hc, fun _ => ⟨g, 0, rfl, h.lt, hF, fun j hj => by rw [Nat.zero_add]; exact h.cell hj⟩⟩
/-- An own slice is such a row. -/
theorem OwnBo.row {w : World} {B : Nat} {v : Value} {l : List Bool} (h : OwnBo w B v l) (h0 : 0 < l.length) : ∃ g cap, v = .slice (some ⟨g, 0, none⟩) l.length cap ∧ B ≤ g ∧ cap ≤ 9223372036854775807 ∧ RowB w g cap l := by
  rcases h.2 with ⟨rfl, h1⟩ | ⟨g, cap, cur, rfl, hg, hh, hnc, hcp, hcs, htake⟩
  · omega
  · refine ⟨g, cap, rfl, hg, by unfold maxLen at hcp; omega, cur, hh, by omega, hnc, fun j hj => ?_⟩
    have h2 : cur.toList[j]? = (boolsV l)[j]? := by
      rw [← htake, Nat.mul_one, List.getElem?_take_of_lt hj]
    rw [← Array.getElem?_toList, h2]
    simp [boolsV, hj]

end Go.Proofs.Ytpoeklgoepjikaa

/-
  The given none, ends, place.
-/
namespace Go.Proofs.Ytpoeklgoepjikaa
open Go.RowKit

theorem Au.has_get {S : List Bool} {i : Nat} (h : i < S.length) : Au.has S i ↔ S[i] = true := by
  unfold Au.has
  rw [List.getElem?_eq_getElem h]
  simp
theorem Au.has_lt {S : List Bool} {i : Nat} (h : Au.has S i) : i < S.length := (List.getElem?_eq_some_iff.1 h).1

set_option maxRecDepth 100000 in
set_option maxHeartbeats 2000000 in
theorem ends_any (F G : Nat → Prop) (w : World) (u v : Value) (d : List Au.Lo) (S : List Bool) (hu : LoS F w u d) (hv : SetS G w v S) (hlen : S.length = d.length) :
    Calls Try.prog 18 #[u, v] w fun e w' => e = .returned (.bool (Au.ends d S)) ∧ Below w.heap.size w w' := by
  obtain ⟨a, cap, rfl, hc1, hc2, hc⟩ := hv
  obtain ⟨b, cap', rfl, hd1, hd2, hd⟩ := hu
  obtain ⟨n, hn⟩ : ∃ n, n = d.length := ⟨_, rfl⟩
  have HC := Lib.hid hc
  have HD := Lib.hid hd
  have HN := Lib.hid hn
  have hn2 : n ≤ 9223372036854775807 := by omega
  have hn3 : S.length = n := by omega
  have HL := Lib.hid hn3
  obtain ⟨r, hr⟩ : ∃ r, Au.ends d S = r := ⟨_, rfl⟩
  have HR := Lib.hid hr
  rw [hn3, ← hn, hr]
  clear hc hc1 hn hd hd1 hn3 hlen hr
  go_enter Try.func18, Try.ntmps18
  go_wp2_with fail
  go_loopg [5] n (fun gg vi wx => ∃ i : Nat, i ≤ n ∧ gg = n - i ∧ vi = .int .i64 i ∧ Hid (∀ j s, j < i → Au.has S j → d[j]? = some s → s.fin = false) ∧ wx = w)
  case atStart => exact ⟨0, Nat.zero_le _, rfl, rfl, fun j s h => by omega, rfl⟩
  case round =>
    obtain ⟨i, hi, rfl, rfl, hS, rfl⟩ := hrel
    by_cases hin : i < n
    · have j1 : (i : Int) < (n : Int) := by omega
      have hl : i < S.length := by rw [HL.out]; exact hin
      have hl2 : i < d.length := by rw [← HN.out]; exact hin
      obtain ⟨g, o, rfl, hg, _, hcl⟩ := HC.out (by omega)
      obtain ⟨g', o', rfl, hg', _, hcd⟩ := HD.out (by omega)
      have c1 := hcl i hl
      have c2 := (hcd i hl2).1
      have hst : Hid (¬ (S[i] = true ∧ d[i].fin = true) → ∀ j s, j < i + 1 → Au.has S j → d[j]? = some s → s.fin = false) := fun h j s hj hs hd => by
        by_cases e : j = i
        · subst e
          rw [List.getElem?_eq_getElem hl2] at hd
          cases hd
          rw [Au.has_get hl] at hs
          cases hq : d[j].fin
          · rfl
          · exact absurd ⟨hs, hq⟩ h
        · exact hS.out j s (by omega) hs hd
      have hyes : Hid (S[i] = true → d[i].fin = true → Au.ends d S = true) := fun h1 h2 => (Au.ends_iff d S).2 ⟨i, d[i], (Au.has_get hl).2 h1, List.getElem?_eq_getElem hl2, h2⟩
      clear hcl hcd hS
      generalize S[i] = x at *
      generalize d[i].fin = y at *
      cases x
      · have H := Lib.hid (hst.out (by simp))
        clear hst hyes
        go_wp2_with fail
        go_roundg (n - (i + 1))
        case rel => exact ⟨i + 1, by omega, rfl, by go_num, H.out, rfl⟩
        case measure => omega
      · cases y
        · have H := Lib.hid (hst.out (by simp))
          clear hst hyes
          go_wp2_with fail
          go_roundg (n - (i + 1))
          case rel => exact ⟨i + 1, by omega, rfl, by go_num, H.out, rfl⟩
          case measure => omega
        · obtain rfl : true = r := by rw [← HR.out, hyes.out rfl rfl]
          clear hst hyes
          go_wp2_with fail
          go_ret
          exact ⟨rfl, Below.refl _ _⟩
    · obtain rfl : i = n := by omega
      obtain rfl : false = r := by
        rw [← HR.out]
        symm
        rw [← Bool.not_eq_true, Au.ends_iff]
        rintro ⟨j, s, h1, h2, h3⟩
        have := (List.getElem?_eq_some_iff.1 h2).1
        rw [← HN.out] at this
        rw [hS.out j s this h1 h2] at h3
        cases h3
      clear hS
      go_wp2_with fail
      go_ret
      exact ⟨rfl, Below.refl _ _⟩

/-- The value v is a slice of these sets. -/
def SetsS (F : Nat → Prop) (w : World) (v : Value) (L : List (List Bool)) : Prop :=
  ∃ a cap, v = .slice a L.length cap ∧ L.length ≤ cap ∧ cap ≤ 9223372036854775807 ∧ (0 < L.length → ∃ g o, a = some ⟨g, o, none⟩ ∧ g < w.heap.size ∧ F g ∧ ∀ j (_ : j < L.length), ∃ va, w.cell? ⟨g, o + j, none⟩ = some va ∧ SetS F w va L[j])

namespace Au
/-- The first set that is the same, or -1. -/
def place (L : List (List Bool)) (S : List Bool) : Int := if find (fun a b => decide (a = b)) L S = L.length then -1 else (find (fun a b => decide (a = b)) L S : Nat)
theorem find_drop {σ : Type} (same : σ → σ → Bool) (L : List σ) (S : σ) (i : Nat) (h : ∀ j (hj : j < L.length), j < i → same L[j] S = false) (hi : i ≤ L.length) : find same L S = i + find same (L.drop i) S := by
  induction L generalizing i with
  | nil =>
    have : i = 0 := by simpa using hi
    subst this
    simp [find]
  | cons m r ih =>
    cases i with
    | zero => simp
    | succ i =>
      have h0 := h 0 (by simp) (by omega)
      simp only [List.getElem_cons_zero] at h0
      simp only [find, h0, List.drop_succ_cons, Bool.false_eq_true, if_false]
      have := ih i (fun j hj hji => by have := h (j + 1) (by simp; omega) (by omega); simpa using this) (by simpa using hi)
      omega
end Au

end Go.Proofs.Ytpoeklgoepjikaa

/-
  The given Spread: a set, and what it leads to by nothing.
-/
namespace Go.Proofs.Ytpoeklgoepjikaa
open Go.RowKit
namespace Au
/-- A set lies between the one and what that leads to. -/
structure Mid (d : List Lo) (S T : List Bool) : Prop where
  len : T.length = d.length
  sup : ∀ i, has S i → has T i
  sub : ∀ i, has T i → ∃ j, has S j ∧ Star d j i
def Shut (d : List Lo) (T : List Bool) (i : Nat) : Prop := has T i → ∀ s f, d[i]? = some s → f ∈ s.free → has T f.toNat
theorem Mid.shut {d : List Lo} {S T : List Bool} (h : Mid d S T) (hs : ∀ i, i < d.length → Shut d T i) : T = spread d S := by
  apply set_ext (by rw [h.len, spread_length])
  intro i
  constructor
  · intro hi
    have := has_lt hi
    rw [h.len] at this
    exact (has_setOf _ _ _).2 ⟨this, h.sub i hi⟩
  · intro hi
    obtain ⟨hlt, j, hj, hst⟩ := (has_setOf _ _ _).1 hi
    have hj := h.sup j hj
    clear hi hlt
    induction hst with
    | refl => exact hj
    | step _ h1 h2 ih => exact hs _ (List.getElem?_eq_some_iff.1 h1).1 ih _ _ h1 h2
theorem Mid.start {d : List Lo} {S : List Bool} (h : S.length = d.length) : Mid d S S := ⟨h, fun _ h => h, fun i h => ⟨i, h, .refl⟩⟩
theorem has_set {T : List Bool} {f i : Nat} (hf : f < T.length) : has (T.set f true) i ↔ i = f ∨ has T i := by
  unfold has
  rw [List.getElem?_set]
  by_cases h : f = i
  · subst h; simp [hf]
  · rw [if_neg h]
    constructor
    · exact fun h => .inr h
    · rintro (rfl | h')
      · exact absurd rfl h
      · exact h'
theorem Mid.grow {d : List Lo} {S T : List Bool} (h : Mid d S T) {i f : Nat} {s : Lo} {z : Int} (hi : has T i) (hs : d[i]? = some s) (hz : z ∈ s.free) (hf : z.toNat = f) (hl : f < d.length) : Mid d S (T.set f true) := by
  refine ⟨by rw [List.length_set, h.len], fun j hj => ?_, fun j hj => ?_⟩
  · exact (has_set (by rw [h.len]; exact hl)).2 (.inr (h.sup j hj))
  · rcases (has_set (by rw [h.len]; exact hl)).1 hj with rfl | hj
    · obtain ⟨k, h1, h2⟩ := h.sub i hi
      exact ⟨k, h1, hf ▸ .step h2 hs hz⟩
    · exact h.sub j hj
theorem count_set_lt {T : List Bool} {f : Nat} (hf : f < T.length) (h : T[f] = false) : (T.set f true).count false < T.count false := by
  have h1 := List.count_set (a := true) (b := false) hf
  have h2 : 0 < T.count false := List.count_pos_iff.2 (h ▸ List.getElem_mem hf)
  rw [h1, h]
  simp
  omega
/-- What is left to do at most. -/
def left : Bool → List Bool → Nat
  | true, T => T.count false + 1
  | false, _ => 0
/-- How a pass over the states stands. -/
def Pass (d : List Lo) (T T' : List Bool) (m : Bool) (i : Nat) : Prop := (m = false ∧ T' = T ∧ ∀ j, j < i → Shut d T j) ∨ (m = true ∧ T'.count false < T.count false)
/-- And within one state. -/
def Pass3 (d : List Lo) (T T' : List Bool) (m : Bool) (i k : Nat) (l : List Int) : Prop := (m = false ∧ T' = T ∧ (∀ j, j < i → Shut d T j) ∧ ∀ j (h : j < l.length), j < k → has T l[j].toNat) ∨ (m = true ∧ T'.count false < T.count false)
end Au

set_option maxRecDepth 100000 in
set_option maxHeartbeats 4000000 in
theorem spread_any (F G : Nat → Prop) (w : World) (u v : Value) (d : List Au.Lo) (S : List Bool) (hu : LoS F w u d) (hv : SetS G w v S) (hlen : S.length = d.length) (h0 : 0 < d.length) (hbig : d.length ≤ 1099511627776)
    (hfree : ∀ i (h : i < d.length), ∀ f ∈ d[i].free, 0 ≤ f ∧ f < d.length) :
    Calls Try.prog 16 #[u, v] w fun e w' => ∃ g cap, e = .returned (.slice (some ⟨g, 0, none⟩) d.length cap) ∧ w.heap.size ≤ g ∧ cap ≤ 9223372036854775807 ∧ RowB w' g cap (Au.spread d S) ∧ Below w.heap.size w w' := by
  have LB : Below w.heap.size w (w.alloc (.cells #[] 4)) := (Below.refl _ _).alloc (Nat.le_refl _) _
  have L0 : OwnBo (w.alloc (.cells #[] 4)) w.heap.size (.slice (some ⟨w.heap.size, 0, none⟩) 0 0) [] := World.ownsRow_lit (e := 4) (size := 1) w #[] 0 (Nat.le_refl _) (by unfold maxLen; omega) rfl
  have hbits := hv.bits.below LB (Nat.le_refl _)
  obtain ⟨a, cap, rfl, hc1, hc2, hc⟩ := hv
  obtain ⟨g1, o1, rfl, _, _, _⟩ := hc (by omega)
  have HA := Lib.hid (And.intro L0 (And.intro LB hbits))
  obtain ⟨b, cap', rfl, hd1, hd2, hd⟩ := hu
  obtain ⟨n, hn⟩ : ∃ n, n = d.length := ⟨_, rfl⟩
  have HD := Lib.hid hd
  have HN := Lib.hid hn
  have HFR := Lib.hid hfree
  have hSn : S.length = n := by omega
  have HSL := Lib.hid hlen
  have hS0 : 0 < S.length := by omega
  rw [← hn] at h0 hbig ⊢
  clear LB L0 hbits hc hd hc1 hd1 hfree hlen
  have HSn := Lib.hid hSn
  have hSb : S.length ≤ 1099511627776 := by omega
  clear hn
  go_enter Try.func16, Try.ntmps16
  go_wp2_with (at_builtin; refine wpList_appBo rfl _ _ rfl w.heap.size (by simp) (.slice (some ⟨w.heap.size, 0, none⟩) 0 0) [] S rfl HA.out.1 ⟨g1, o1, none⟩ cap rfl HA.out.2.2 (by simp; omega) ?_; intro v1 w1 hown1 hb1; obtain ⟨g, cap2, rfl, hgB, hcp, hrow⟩ := OwnBo.row hown1 (by simp; omega))
  have HB1 : Hid (Below w.heap.size w w1) := HA.out.2.1.trans hb1
  have HR1 : Hid (RowB w1 g cap2 S) := hrow
  clear hown1 hb1 hrow HA
  have HM1 : Hid (Au.Mid d S S) := Au.Mid.start HSL.out
  clear hSn hS0 hSb HSn
  go_loopg [6] (Au.left true S) (fun gg vm wx => ∃ (m : Bool) (T : List Bool), gg = Au.left m T ∧ vm = .bool m ∧ Hid (Au.Mid d S T) ∧ Hid (m = false → ∀ i, i < d.length → Au.Shut d T i) ∧ Hid (RowB wx g cap2 T) ∧ Below w.heap.size w wx)
  case atStart => exact ⟨true, S, rfl, rfl, HM1, (fun h => by cases h), HR1, HB1.out⟩
  case round =>
    obtain ⟨m, T, rfl, rfl, hM, hC, hR, hbel⟩ := hrel
    have HBE := Lib.hid hbel
    clear hbel
    cases m with
    | false =>
      have hfin : T = Au.spread d S := hM.out.shut (hC.out rfl)
      have HF : Hid (RowB wr g cap2 (Au.spread d S)) := by rw [← hfin]; exact hR
      clear hM hC hR hfin
      go_wp2_with fail
      go_ret
      exact ⟨g, cap2, rfl, hgB, hcp, HF.out, HBE.out⟩
    | true =>
      clear hC
      go_wp2_with fail
      go_loopg [6, 7] n (fun gg vm vi wx => ∃ (i : Nat) (m : Bool) (T' : List Bool), i ≤ n ∧ gg = n - i ∧ vm = .bool m ∧ vi = .int .i64 i ∧ Hid (Au.Mid d S T') ∧ Hid (Au.Pass d T T' m i) ∧ Hid (RowB wx g cap2 T') ∧ Below w.heap.size w wx)
      case atStart => exact ⟨0, false, T, Nat.zero_le _, rfl, rfl, rfl, hM, .inl ⟨rfl, rfl, fun j h => by omega⟩, hR, HBE.out⟩
      case round =>
        obtain ⟨i, m, T', hi, rfl, rfl, rfl, hM', hP, hR', hbel⟩ := hrel
        have HBE2 := Lib.hid hbel
        by_cases hin : i < n
        · have j1 : (i : Int) < (n : Int) := by omega
          have hid : i < d.length := by rw [← HN.out]; exact hin
          obtain ⟨g', o', rfl, hg', _, hcd⟩ := HD.out (by omega)
          obtain ⟨_, _, vf, d1, hvf⟩ := hcd i hid
          have hdi : Hid (d[i]? = some d[i]) := List.getElem?_eq_getElem hid
          have hfr := Lib.hid (HFR.out i hid)
          clear hcd hbel
          generalize d[i] = s at *
          obtain ⟨sf, sa, fr⟩ := s
          dsimp only at hvf hfr
          obtain ⟨a2, cap3, rfl, he1, he2, he⟩ := hvf
          obtain ⟨q, hq⟩ : ∃ q, q = fr.length := ⟨_, rfl⟩
          have HE := Lib.hid he
          have HQ := Lib.hid hq
          have hq2 : q ≤ 9223372036854775807 := by omega
          rw [← hq] at d1
          clear he he1 hq
          go_wp2_with fail
          go_loopg [6, 8] q (fun gg vm vk wx => ∃ (k : Nat) (m : Bool) (T' : List Bool), k ≤ q ∧ gg = q - k ∧ vm = .bool m ∧ vk = .int .i64 k ∧ Hid (Au.Mid d S T') ∧ Hid (Au.Pass3 d T T' m i k fr) ∧ Hid (RowB wx g cap2 T') ∧ Below w.heap.size w wx)
          case atStart =>
            refine ⟨0, m, T', Nat.zero_le _, rfl, rfl, rfl, hM', ?_, hR', HBE2.out⟩
            rcases hP.out with ⟨h1, h2, h3⟩ | h
            · exact .inl ⟨h1, h2, h3, fun j _ h => by omega⟩
            · exact .inr h
          case round =>
            clear hM' hP hR' HBE2
            obtain ⟨k, m, T', hk, rfl, rfl, rfl, hM', hP, hR', hbel⟩ := hrel
            have HBE2 := Lib.hid hbel
            have D1 := (hbel.cell (p := ⟨g', o' + i * 3 + 2, none⟩) hg').trans d1
            have hiT : i < T'.length := by rw [hM'.out.len]; exact hid
            have r1 := hR'.out.cell hiT
            have hasi := Lib.hid (Au.has_get hiT)
            have hlen' := Lib.hid hM'.out.len
            by_cases hq : k < q
            · have j2 : (k : Int) < (q : Int) := by omega
              have kl : k < fr.length := by rw [← HQ.out]; exact hq
              obtain ⟨h, p, rfl, hh, _, hcl⟩ := HE.out (by omega)
              have e1 := (hbel.cell (p := ⟨h, p + k, none⟩) hh).trans (hcl k kl)
              have hz := hfr.out fr[k] (List.getElem_mem kl)
              obtain ⟨f, hf⟩ : ∃ f : Nat, fr[k] = (f : Int) := ⟨fr[k].toNat, by omega⟩
              have hfm : Hid ((f : Int) ∈ fr) := by
                show _ ∈ _
                rw [← hf]
                exact List.getElem_mem kl
              have hfl : f < d.length := by omega
              have hfT : f < T'.length := by rw [hM'.out.len]; exact hfl
              have r2 := hR'.out.cell hfT
              have z1 := hR'.out.frozen f
              have j3 : (f : Int) < (n : Int) := by rw [HN.out]; omega
              have j4 : (0 : Int) ≤ (f : Int) := by omega
              rw [hf] at e1
              have hgrow : Hid (T'[i] = true → Au.Mid d S (T'.set f true)) := fun hb => hM'.out.grow (hasi.out.2 hb) hdi.out hfm.out (Int.toNat_natCast f) hfl
              have hcnt : Hid (T'[f] = false → (T'.set f true).count false < T'.count false) := fun hb => Au.count_set_lt hfT hb
              have hRow : Hid (RowB (wr.setCell ⟨g, f, none⟩ (.bool true)) g cap2 (T'.set f true)) := hR'.out.set f true
              have hBel : Hid (Below w.heap.size w (wr.setCell ⟨g, f, none⟩ (.bool true))) := hbel.setCell (p := ⟨g, f, none⟩) hgB _
              have hstay : Hid (T'[f] = true → Au.Pass3 d T T' m i (k + 1) fr) := fun hb => by
                rcases hP.out with ⟨h1, h2, h3, h4⟩ | h
                · refine .inl ⟨h1, h2, h3, fun j hj hjk => ?_⟩
                  by_cases e : j = k
                  · subst e
                    rw [hf, Int.toNat_natCast, ← h2]
                    exact (Au.has_get hfT).2 hb
                  · exact h4 j hj (by omega)
                · exact .inr h
              have hless : Hid ((T'.set f true).count false < T'.count false → Au.Pass3 d T (T'.set f true) true i (k + 1) fr) := fun hl => by
                rcases hP.out with ⟨_, h2, _, _⟩ | ⟨_, h2⟩
                · exact .inr ⟨rfl, by rw [h2] at hl ⊢; exact hl⟩
                · exact .inr ⟨rfl, by omega⟩
              have hend : Hid (T'[i] = false → Au.Pass d T T' m (i + 1)) := fun hb => by
                rcases hP.out with ⟨h1, h2, h3, h4⟩ | h
                · refine .inl ⟨h1, h2, fun j hj => ?_⟩
                  by_cases e : j = i
                  · subst e
                    intro hh
                    rw [← h2, hasi.out, hb] at hh
                    cases hh
                  · exact h3 j (by omega)
                · exact .inr h
              clear hP hcl hf hz hbel
              generalize T'[i] = bi at *
              generalize T'[f] = bf at *
              cases bi
              · have H := Lib.hid (hend.out rfl)
                clear hend hless hstay hcnt hgrow
                go_wp2_with fail
                go_roundg (n - (i + 1))
                case rel => exact ⟨i + 1, m, T', by omega, rfl, rfl, by go_num, hM', H.out, hR', HBE2.out⟩
                case measure => omega
              · cases bf
                · have H1 := Lib.hid (hgrow.out rfl)
                  have H2 := Lib.hid (hless.out (hcnt.out rfl))
                  clear hend hless hstay hcnt hgrow
                  go_wp2_with fail
                  go_roundg (q - (k + 1))
                  case rel => exact ⟨k + 1, true, _, by omega, rfl, rfl, by go_num, H1, H2.out, hRow, hBel.out⟩
                  case measure => omega
                · have H := Lib.hid (hstay.out rfl)
                  clear hend hless hstay hcnt hgrow
                  go_wp2_with fail
                  go_roundg (q - (k + 1))
                  case rel => exact ⟨k + 1, m, T', by omega, rfl, rfl, by go_num, hM', H.out, hR', HBE2.out⟩
                  case measure => omega
            · obtain rfl : k = q := by omega
              have hend : Hid (Au.Pass d T T' m (i + 1)) := by
                rcases hP.out with ⟨h1, h2, h3, h4⟩ | h
                · refine .inl ⟨h1, h2, fun j hj => ?_⟩
                  by_cases e : j = i
                  · subst e
                    intro _ s f hs hf
                    rw [hdi.out] at hs
                    cases hs
                    obtain ⟨x, hx, rfl⟩ := List.getElem_of_mem hf
                    exact h4 x hx (by rw [HQ.out]; exact hx)
                  · exact h3 j (by omega)
                · exact .inr h
              clear hP hbel
              generalize T'[i] = bi at *
              cases bi
              all_goals
                go_wp2_with fail
                go_roundg (n - (i + 1))
                case rel => exact ⟨i + 1, m, T', by omega, rfl, rfl, by go_num, hM', hend.out, hR', HBE2.out⟩
                case measure => omega
        · obtain rfl : i = n := by omega
          have hC2 : Hid (m = false → ∀ j, j < d.length → Au.Shut d T' j) := fun hm => by
            rcases hP.out with ⟨_, h2, h3⟩ | ⟨h1, _⟩
            · rw [h2]
              intro j hj
              exact h3 j (by rw [HN.out]; exact hj)
            · rw [h1] at hm; cases hm
          have hless : Au.left m T' < Au.left true T := by
            rcases hP.out with ⟨h1, _⟩ | ⟨h1, h2⟩
            · subst h1
              show 0 < _ + 1
              omega
            · subst h1
              show _ + 1 < _ + 1
              omega
          have HLS := Lib.hid hless
          clear hP hbel hless
          go_wp2_with fail
          go_roundg (Au.left m T')
          case rel => exact ⟨m, T', rfl, rfl, hM', hC2, hR', HBE2.out⟩
          case measure => exact HLS.out

end Go.Proofs.Ytpoeklgoepjikaa

/-
  The given Over: the set that a byte leads to; the given Takes.
-/
namespace Go.Proofs.Ytpoeklgoepjikaa
open Go.RowKit

theorem row_made (w : World) (n : Nat) : RowB (w.alloc (.cells (madeCells #[.bool false] n) 4)) w.heap.size n (List.replicate n false) := by
  obtain ⟨c, h1, h2, h3⟩ := World.rowIs_made w (.bool false) n 4
  refine ⟨c, h1, h2, by simp, fun j hj => ?_⟩
  rw [List.length_replicate] at hj
  rw [h3 j hj]
  simp
namespace Au
/-- What the first states lead to. -/
def Lead (d : List Lo) (S : List Bool) (c : Nat) (i j : Nat) : Prop := ∃ k s a, k < i ∧ has S k ∧ d[k]? = some s ∧ a ∈ s.arcs ∧ a.lo ≤ (c : Int) ∧ (c : Int) ≤ a.hi ∧ a.to.toNat = j
/-- And the first arcs of the next. -/
def Lead3 (d : List Lo) (S : List Bool) (c : Nat) (i : Nat) (l : List Arc) (k j : Nat) : Prop := Lead d S c i j ∨ (has S i ∧ ∃ x, ∃ h : x < l.length, x < k ∧ l[x].lo ≤ (c : Int) ∧ (c : Int) ≤ l[x].hi ∧ l[x].to.toNat = j)
theorem not_has_false (n j : Nat) : ¬ has (List.replicate n false) j := by
  unfold has
  rw [List.getElem?_replicate]
  split <;> simp
end Au

set_option maxRecDepth 100000 in
set_option maxHeartbeats 4000000 in
theorem over_any (F G : Nat → Prop) (w : World) (u v : Value) (d : List Au.Lo) (S : List Bool) (c : Nat) (hu : LoS F w u d) (hv : SetS G w v S) (hlen : S.length = d.length) (hmay : Au.May d) (hbig : d.length ≤ 1099511627776) :
    Calls Try.prog 17 #[u, v, .int .i64 c] w fun e w' => ∃ g cap, e = .returned (.slice (some ⟨g, 0, none⟩) d.length cap) ∧ w.heap.size ≤ g ∧ cap ≤ 9223372036854775807 ∧ RowB w' g cap (Au.over d S c) ∧ Below w.heap.size w w' := by
  have HSP : Hid (∀ W g T, Below w.heap.size w W → RowB W g d.length T → T.length = d.length → Calls Try.prog 16 #[u, .slice (some ⟨g, 0, none⟩) d.length d.length] W fun e w' => ∃ g cap, e = .returned (.slice (some ⟨g, 0, none⟩) d.length cap) ∧ W.heap.size ≤ g ∧ cap ≤ 9223372036854775807 ∧ RowB w' g cap (Au.spread d T) ∧ Below W.heap.size W w') := fun W g T hb hr hl => by
    have h := hr.slice (by omega) (fun _ => True) trivial
    rw [hl] at h
    exact spread_any F (fun _ => True) W u _ d T (hu.below hb) h hl hmay.pos hbig hmay.free
  obtain ⟨a, cap, rfl, hc1, hc2, hc⟩ := hv
  obtain ⟨b, cap', rfl, hd1, hd2, hd⟩ := hu
  obtain ⟨n, hn⟩ : ∃ n, n = d.length := ⟨_, rfl⟩
  have hSn : S.length = n := by omega
  have hn0 : 0 < n := by have := hmay.pos; omega
  have HC := Lib.hid hc
  have HD := Lib.hid hd
  have HN := Lib.hid hn
  have HSN := Lib.hid hSn
  have HMAY := Lib.hid hmay
  have hO : Hid (∀ T : List Bool, T.length = n → (∀ j, Au.has T j ↔ Au.Lead d S c n j) → Au.spread d T = Au.over d S c) := fun T hl h => by
    unfold Au.over
    congr 1
    apply Au.set_ext (by rw [Au.setOf_length]; omega)
    intro j
    rw [h j, Au.has_setOf]
    constructor
    · rintro ⟨k, s, x, h1, h2, h3, h4, h5, h6, h7⟩
      obtain ⟨hkl, rfl⟩ := List.getElem?_eq_some_iff.1 h3
      have := hmay.arc k hkl x h4
      exact ⟨by omega, k, d[k], x, h2, h3, h4, h5, h6, h7⟩
    · rintro ⟨_, k, s, x, h2, h3, h4, h5, h6, h7⟩
      have := (List.getElem?_eq_some_iff.1 h3).1
      exact ⟨k, s, x, by omega, h2, h3, h4, h5, h6, h7⟩
  have hmk := run_make_row' (P := Try.prog) 50 4 (.bool false) 1 Try.underlying50 Try.infoBo rfl .i64 .i64 n (by omega) (by omega)
  have HR0 := Lib.hid (row_made w n)
  have HB0 : Hid (Below w.heap.size w (w.alloc (.cells (madeCells #[.bool false] n) 4))) := (Below.refl _ _).alloc (Nat.le_refl _) _
  rw [← hn] at HSP hbig ⊢
  rw [hSn]
  clear hc hd hc1 hd1 hlen hmay hn hSn
  go_enter Try.func17, Try.ntmps17
  go_wp2_with fail
  generalize w.alloc (.cells (madeCells #[.bool false] n) 4) = w1 at *
  clear hmk
  obtain ⟨g, hg⟩ : ∃ g, w.heap.size = g := ⟨_, rfl⟩
  have hgB : w.heap.size ≤ g := by omega
  rw [hg] at HR0 ⊢
  go_loopg [8] n (fun gg vi wx => ∃ (i : Nat) (T : List Bool), i ≤ n ∧ gg = n - i ∧ vi = .int .i64 i ∧ Hid (T.length = n) ∧ Hid (∀ j, Au.has T j ↔ Au.Lead d S c i j) ∧ Hid (RowB wx g n T) ∧ Below w.heap.size w wx)
  case atStart =>
    refine ⟨0, List.replicate n false, Nat.zero_le _, rfl, rfl, (by show _ = _; simp), fun j => ?_, HR0, HB0.out⟩
    constructor
    · intro h; exact absurd h (Au.not_has_false n j)
    · rintro ⟨k, s, x, h1, _⟩; omega
  case round =>
    obtain ⟨i, T, hi, rfl, rfl, hT, hI, hR, hbel⟩ := hrel
    have HBE := Lib.hid hbel
    by_cases hin : i < n
    · have j1 : (i : Int) < (n : Int) := by omega
      have hid : i < d.length := by rw [← HN.out]; exact hin
      have hiS : i < S.length := by rw [HSN.out]; exact hin
      obtain ⟨g', o', rfl, hg', _, hcd⟩ := HD.out (by omega)
      obtain ⟨g2, o2, rfl, hg2, _, hcs⟩ := HC.out (by omega)
      obtain ⟨_, ⟨va, d1, hva⟩, _⟩ := hcd i hid
      have s1 := hcs i hiS
      have hasi := Lib.hid (Au.has_get hiS)
      have hdi : Hid (d[i]? = some d[i]) := List.getElem?_eq_getElem hid
      have har := Lib.hid (HMAY.out.arc i hid)
      clear hcd hcs hbel
      generalize d[i] = s at *
      generalize S[i] = bi at *
      obtain ⟨sf, l, fr⟩ := s
      dsimp only at hva har
      obtain ⟨a2, cap3, rfl, he1, he2, he⟩ := hva
      obtain ⟨q, hq⟩ : ∃ q, q = l.length := ⟨_, rfl⟩
      have HE := Lib.hid he
      have HQ := Lib.hid hq
      have hq2 : q ≤ 9223372036854775807 := by omega
      rw [← hq] at d1
      clear he he1 hq
      have hnext : Hid (∀ T' : List Bool, (bi = false ∧ (∀ j, Au.has T' j ↔ Au.Lead3 d S c i l 0 j) ∨ (∀ j, Au.has T' j ↔ Au.Lead3 d S c i l q j)) → ∀ j, Au.has T' j ↔ Au.Lead d S c (i + 1) j) := by
        have h1 : ∀ j, Au.Lead3 d S c i l q j ↔ Au.Lead d S c (i + 1) j := fun j => by
          constructor
          · rintro (⟨k, s, x, h1, h⟩ | ⟨h1, x, hx, _, h3⟩)
            · exact ⟨k, s, x, by omega, h⟩
            · exact ⟨i, _, l[x], by omega, h1, hdi.out, List.getElem_mem hx, h3⟩
          · rintro ⟨k, s, x, h1, h2, h3, h4, h5⟩
            by_cases e : k = i
            · subst e
              right
              rw [hdi.out] at h3
              cases h3
              obtain ⟨y, hy, rfl⟩ := List.getElem_of_mem h4
              exact ⟨h2, y, hy, by rw [HQ.out]; exact hy, h5⟩
            · exact .inl ⟨k, s, x, by omega, h2, h3, h4, h5⟩
        intro T' h j
        rcases h with ⟨hb, h⟩ | h
        · rw [h j]
          constructor
          · rintro (⟨k, s, x, h1, h⟩ | ⟨h1, x, hx, h0, _⟩)
            · exact ⟨k, s, x, by omega, h⟩
            · omega
          · rintro ⟨k, s, x, h1, h2, h3⟩
            by_cases e : k = i
            · subst e
              rw [hasi.out, hb] at h2
              cases h2
            · exact .inl ⟨k, s, x, by omega, h2, h3⟩
        · rw [h j]
          exact h1 j
      go_wp2_with fail
      go_loopg [9] q (fun gg vk wx => ∃ (k : Nat) (T' : List Bool), k ≤ q ∧ gg = q - k ∧ vk = .int .i64 k ∧ Hid (bi = false → k = 0) ∧ Hid (T'.length = n) ∧ Hid (∀ j, Au.has T' j ↔ Au.Lead3 d S c i l k j) ∧ Hid (RowB wx g n T') ∧ Below w.heap.size w wx)
      case atStart =>
        refine ⟨0, T, Nat.zero_le _, rfl, rfl, fun _ => rfl, hT, fun j => ?_, hR, HBE.out⟩
        rw [hI.out j]
        constructor
        · intro h; exact .inl h
        · rintro (h | ⟨_, x, _, h, _⟩)
          · exact h
          · omega
      case round =>
        clear hT hI hR HBE
        obtain ⟨k, T', hk, rfl, rfl, hk0, hT, hI, hR, hbel⟩ := hrel
        have HBE := Lib.hid hbel
        have D1 := (hbel.cell (p := ⟨g', o' + i * 3 + 1, none⟩) hg').trans d1
        have S1 := (hbel.cell (p := ⟨g2, o2 + i, none⟩) hg2).trans s1
        cases bi with
        | false =>
          obtain rfl : k = 0 := hk0.out rfl
          have H := Lib.hid (hnext.out T' (.inl ⟨rfl, hI.out⟩))
          clear hnext hI hk0 hbel
          go_wp2_with fail
          go_roundg (n - (i + 1))
          case rel => exact ⟨i + 1, T', by omega, rfl, by go_num, hT, H.out, hR, HBE.out⟩
          case measure => omega
        | true =>
          clear hk0
          by_cases hq : k < q
          · have j2 : (k : Int) < (q : Int) := by omega
            have kl : k < l.length := by rw [← HQ.out]; exact hq
            obtain ⟨h, p, rfl, hh, _, hcl⟩ := HE.out (by omega)
            obtain ⟨e1, e2, e3⟩ := hcl k kl
            have E1 := (hbel.cell (p := ⟨h, p + k * 3, none⟩) hh).trans e1
            have E2 := (hbel.cell (p := ⟨h, p + k * 3 + 1, none⟩) hh).trans e2
            have E3 := (hbel.cell (p := ⟨h, p + k * 3 + 2, none⟩) hh).trans e3
            obtain ⟨_, _, _, z1, z2⟩ := har.out l[k] (List.getElem_mem kl)
            have hno : Hid (¬ (l[k].lo ≤ (c : Int) ∧ (c : Int) ≤ l[k].hi) → ∀ j, Au.has T' j ↔ Au.Lead3 d S c i l (k + 1) j) := fun hn j => by
              rw [hI.out j]
              constructor
              · rintro (h | ⟨h1, x, hx, h2, h3⟩)
                · exact .inl h
                · exact .inr ⟨h1, x, hx, by omega, h3⟩
              · rintro (h | ⟨h1, x, hx, h2, h3, h4, h5⟩)
                · exact .inl h
                · by_cases e : x = k
                  · subst e; exact absurd ⟨h3, h4⟩ hn
                  · exact .inr ⟨h1, x, hx, by omega, h3, h4, h5⟩
            obtain ⟨f, hf⟩ : ∃ f : Nat, l[k].to = (f : Int) := ⟨l[k].to.toNat, by omega⟩
            have hfl : f < n := by rw [HN.out]; omega
            have hfT : f < T'.length := by rw [hT.out]; exact hfl
            have hyes : Hid (l[k].lo ≤ (c : Int) ∧ (c : Int) ≤ l[k].hi → ∀ j, Au.has (T'.set f true) j ↔ Au.Lead3 d S c i l (k + 1) j) := fun hy j => by
              rw [Au.has_set hfT, hI.out j]
              constructor
              · rintro (rfl | h | ⟨h1, x, hx, h2, h3⟩)
                · exact .inr ⟨hasi.out.2 rfl, k, kl, by omega, hy.1, hy.2, by rw [hf]; exact Int.toNat_natCast _⟩
                · exact .inl h
                · exact .inr ⟨h1, x, hx, by omega, h3⟩
              · rintro (h | ⟨h1, x, hx, h2, h3, h4, h5⟩)
                · exact .inr (.inl h)
                · by_cases e : x = k
                  · subst e
                    left
                    rw [← h5, hf]
                    exact (Int.toNat_natCast _).symm
                  · exact .inr (.inr ⟨h1, x, hx, by omega, h3, h4, h5⟩)
            rw [hf] at E3
            have r2 := hR.out.cell hfT
            have j3 : (f : Int) < (n : Int) := by omega
            have j4 : (0 : Int) ≤ (f : Int) := by omega
            clear hcl e1 e2 e3 hf z1 z2 hI hbel
            generalize l[k].lo = lo at *
            generalize l[k].hi = hi' at *
            generalize T'[f] = bf at *
            have hgl : g < wr.heap.size := hR.out.lt
            have hR3 : Hid (RowB (wr.alloc (.cells #[.int .i64 lo, .int .i64 hi', .int .i64 f] 44)) g n T') := hR.out.other (Go.Deep.blk_alloc_lt _ _ _ hgl)
            have hB3 : Hid (Below w.heap.size w (wr.alloc (.cells #[.int .i64 lo, .int .i64 hi', .int .i64 f] 44))) := HBE.out.alloc HBE.out.size _
            have r3 := (cell_same (a := ⟨g, f, none⟩) (Go.Deep.blk_alloc_lt wr (.cells #[.int .i64 lo, .int .i64 hi', .int .i64 f] 44) g hgl)).trans r2
            have z3 := hR3.out.frozen f
            by_cases l1 : lo ≤ (c : Int)
            · by_cases l2 : (c : Int) ≤ hi'
              · have H := Lib.hid (hyes.out ⟨l1, l2⟩)
                have hR4 : Hid (RowB ((wr.setCell ⟨g, f, none⟩ (.bool true)).alloc (.cells #[.int .i64 lo, .int .i64 hi', .int .i64 f] 44)) g n (T'.set f true)) := (hR.out.set f true).other (Go.Deep.blk_alloc_lt _ _ _ (hR.out.set f true).lt)
                have hB4 : Hid (Below w.heap.size w ((wr.setCell ⟨g, f, none⟩ (.bool true)).alloc (.cells #[.int .i64 lo, .int .i64 hi', .int .i64 f] 44))) := by
                  have h := HBE.out.setCell (p := ⟨g, f, none⟩) hgB (.bool true)
                  exact h.alloc h.size _
                have hT4 : Hid ((T'.set f true).length = n) := by show _ = _; rw [List.length_set]; exact hT.out
                clear hyes hno hnext
                go_wp2_with fail
                go_roundg (q - (k + 1))
                case rel => exact ⟨k + 1, _, by omega, rfl, by go_num, (fun h => by cases h), hT4, H.out, hR4, hB4.out⟩
                case measure => omega
              · have H := Lib.hid (hno.out (fun e => l2 e.2))
                clear hyes hno hnext
                go_wp2_with fail
                go_roundg (q - (k + 1))
                case rel => exact ⟨k + 1, T', by omega, rfl, by go_num, (fun h => by cases h), hT, H.out, hR3, hB3.out⟩
                case measure => omega
            · have H := Lib.hid (hno.out (fun e => l1 e.1))
              clear hyes hno hnext
              go_wp2_with fail
              go_roundg (q - (k + 1))
              case rel => exact ⟨k + 1, T', by omega, rfl, by go_num, (fun h => by cases h), hT, H.out, hR3, hB3.out⟩
              case measure => omega
          · obtain rfl : k = q := by omega
            have H := Lib.hid (hnext.out T' (.inr hI.out))
            clear hnext hI hbel
            go_wp2_with fail
            go_roundg (n - (i + 1))
            case rel => exact ⟨i + 1, T', by omega, rfl, by go_num, hT, H.out, hR, HBE.out⟩
            case measure => omega
    · obtain rfl : i = n := by omega
      have HQ2 := Lib.hid (HSP.out wr g T hbel hR.out (by rw [hT.out, HN.out]))
      have HO := Lib.hid (hO.out T hT.out hI.out)
      clear hI hR hbel HSP hO
      go_wp2_with fail
      refine HQ2.out.mono ?_
      rintro e w2 ⟨g3, cap4, rfl, hg3, hcp4, hrow, hb⟩
      have HB2 : Hid (Below w.heap.size w w2) := chain HBE.out hb
      have HW2 := Lib.hid hrow
      have hle : g ≤ g3 := Nat.le_trans (by have := HBE.out.size; omega) hg3
      clear hb hrow
      go_wp2_with fail
      go_ret
      exact ⟨g3, cap4, rfl, by omega, hcp4, by rw [← HO.out]; exact HW2.out, HB2.out⟩

end Go.Proofs.Ytpoeklgoepjikaa

/-
  The given dead: from which states nothing is taken.
-/
namespace Go.Proofs.Ytpoeklgoepjikaa
open Go.RowKit
namespace Au
/-- The states from which nothing is taken. -/
noncomputable def deadL (d : List St) : List Bool := setOf d.length (fun i => Dead (ofL d) (some i))
theorem look_own {n : Nat} {c : Int} {l : List Arc} (h : Row n c l) (k : Nat) (hk : k < l.length) : look l l[k].lo = some l[k].to := by
  induction l generalizing k with
  | nil => simp at hk
  | cons a r ih =>
    have ht : Row n c r := ⟨fun j hj => by have := h.1 (j + 1) (by simp; omega); simpa using this, fun j hj => by have := h.2 (j + 1) (by simp; omega); simpa using this⟩
    cases k with
    | zero =>
      have := h.1 0 (by simp)
      simp only [List.getElem_cons_zero] at this ⊢
      simp only [look]
      rw [if_pos (by omega)]
    | succ k =>
      have hk' : k < r.length := by simpa using hk
      simp only [List.getElem_cons_succ]
      have hlt : a.hi < r[k].lo := by
        have hrow : Row n c (a :: r) := h
        -- arcs rise
        have rise : ∀ j (hj : j < r.length), a.hi < r[j].lo := by
          intro j
          induction j with
          | zero => intro hj; have := h.2 0 (by simp; omega); simpa using this
          | succ j ihj =>
            intro hj
            have h1 := ihj (by omega)
            have h2 := h.2 (j + 1) (by simp; omega)
            have h3 := h.1 (j + 1) (by simp; omega)
            simp only [List.getElem_cons_succ] at h2 h3
            omega
        exact rise k hk'
      simp only [look]
      rw [if_neg (by omega)]
      exact ih ht k hk'
theorem look_mem {l : List Arc} {x t : Int} (h : look l x = some t) : ∃ k, ∃ hk : k < l.length, l[k].to = t := by
  induction l with
  | nil => cases h
  | cons a r ih =>
    simp only [look] at h
    split at h
    · cases h; exact ⟨0, by simp, rfl⟩
    · obtain ⟨k, hk, e⟩ := ih h
      exact ⟨k + 1, by simp; omega, by simpa using e⟩
/-- What is known of a set of states that may be dead. -/
structure Low (d : List St) (T : List Bool) : Prop where
  len : T.length = d.length
  fin : ∀ i (h : i < T.length), T[i] = true → (ofL d).fin i = false
  alive : ∀ i (h : i < T.length), T[i] = false → ¬ Dead (ofL d) (some i)
def Sunk (d : List St) (T : List Bool) (i : Nat) : Prop := has T i → ∀ s a, d[i]? = some s → a ∈ s.arcs → has T a.to.toNat
theorem Low.done {d : List St} {T : List Bool} (h : Low d T) (hs : ∀ i, i < d.length → Sunk d T i) : T = deadL d := by
  have hd : ∀ w i, has T i → (ofL d).acc (some i) w = false := by
    intro w
    induction w with
    | nil =>
      intro i hi
      have hl := has_lt hi
      exact h.fin i hl ((has_get hl).1 hi)
    | cons c w ih =>
      intro i hi
      rw [acc_cons]
      have hl := has_lt hi
      rw [h.len] at hl
      have he : (ofL d).step i c = (look d[i].arcs c).map Int.toNat := by simp only [ofL, List.getElem?_eq_getElem hl]
      rw [he]
      cases hk : look d[i].arcs (c : Int) with
      | none => exact acc_none _ _
      | some t =>
        obtain ⟨k, hk2, rfl⟩ := look_mem hk
        exact ih _ (hs i hl hi _ _ (List.getElem?_eq_getElem hl) (List.getElem_mem hk2))
  apply set_ext (by rw [h.len, deadL, setOf_length])
  intro i
  rw [deadL, has_setOf]
  constructor
  · intro hi
    have hl := has_lt hi
    rw [h.len] at hl
    exact ⟨hl, fun w => hd w i hi⟩
  · rintro ⟨hl, hdd⟩
    have hl' : i < T.length := by rw [h.len]; exact hl
    cases hb : T[i] with
    | true => exact (has_get hl').2 hb
    | false => exact absurd hdd (h.alive i hl' hb)
/-- A state that leads to one that lives. -/
theorem Low.drop {d : List St} {T : List Bool} (h : Low d T) (hr : ∀ i (h : i < d.length), Row d.length 256 d[i].arcs) {i k f : Nat} (hi : i < d.length) (hk : k < d[i].arcs.length) (hf : d[i].arcs[k].to.toNat = f) (hfl : f < T.length) (hb : T[f] = false) : Low d (T.set i false) := by
  have hal : ¬ Dead (ofL d) (some i) := by
    intro hd
    apply h.alive f hfl hb
    intro w
    have h1 := hd (d[i].arcs[k].lo.toNat :: w)
    rw [acc_cons] at h1
    have hrow := (hr i hi).1 k hk
    have he : (ofL d).step i d[i].arcs[k].lo.toNat = some f := by
      simp only [ofL, List.getElem?_eq_getElem hi]
      rw [show ((d[i].arcs[k].lo.toNat : Nat) : Int) = d[i].arcs[k].lo by omega, look_own (hr i hi) k hk]
      simp only [Option.map_some, hf]
    rw [he] at h1
    exact h1
  refine ⟨by rw [List.length_set, h.len], fun j hj hjb => ?_, fun j hj hjb => ?_⟩
  · rw [List.getElem_set] at hjb
    rw [List.length_set] at hj
    split at hjb
    · cases hjb
    · exact h.fin j hj hjb
  · rw [List.getElem_set] at hjb
    rw [List.length_set] at hj
    split at hjb
    · rename_i e
      rw [← e]
      exact hal
    · exact h.alive j hj hjb
def Pass4 (d : List St) (T T' : List Bool) (m : Bool) (i : Nat) : Prop := (m = false ∧ T' = T ∧ ∀ j, j < i → Sunk d T j) ∨ (m = true ∧ T'.count true < T.count true)
def Pass5 (d : List St) (T T' : List Bool) (m : Bool) (i k : Nat) (l : List Arc) : Prop := (m = false ∧ T' = T ∧ (∀ j, j < i → Sunk d T j) ∧ ∀ j (h : j < l.length), j < k → has T l[j].to.toNat) ∨ (m = true ∧ T'.count true < T.count true)
def left2 : Bool → List Bool → Nat
  | true, T => T.count true + 1
  | false, _ => 0
theorem count_drop_lt {T : List Bool} {f : Nat} (hf : f < T.length) (h : T[f] = true) : (T.set f false).count true < T.count true := by
  have h1 := List.count_set (a := false) (b := true) hf
  have h2 : 0 < T.count true := List.count_pos_iff.2 (h ▸ List.getElem_mem hf)
  rw [h1, h]
  simp
  omega
end Au

end Go.Proofs.Ytpoeklgoepjikaa

/-
  The given Step.
-/
namespace Go.Proofs.Ytpoeklgoepjikaa
open Go.RowKit

theorem Au.look_drop (l : List Au.Arc) (k : Nat) (hk : k < l.length) (c : Int) : Au.look (l.drop k) c = if l[k].lo ≤ c ∧ c ≤ l[k].hi then some l[k].to else Au.look (l.drop (k + 1)) c := by
  rw [List.drop_eq_getElem_cons hk]
  rfl

end Go.Proofs.Ytpoeklgoepjikaa

/-
  The given Check.
-/
namespace Go.Proofs.Ytpoeklgoepjikaa
open Go.RowKit
namespace Au
/-- Is arc k of a row as 8.1 asks? -/
def okArc (n : Nat) (l : List Arc) (k : Nat) : Prop := ∀ h : k < l.length, 0 ≤ l[k].lo ∧ l[k].hi ≤ 255 ∧ l[k].lo ≤ l[k].hi ∧ 0 ≤ l[k].to ∧ l[k].to < n ∧ (0 < k → l[k - 1].hi < l[k].lo)
/-- Are all arcs of a state? -/
def okAt (n : Nat) (d : List St) (i : Nat) : Prop := ∀ s, d[i]? = some s → ∀ k, okArc n s.arcs k
open Classical in
/-- What 8.1 answers of a list of states. -/
noncomputable def check (d : List St) : Int := if d.length = 0 then 1 else if 20000 < d.length then 8 else if ∀ i, i < d.length → okAt d.length d i then 0 else 3
theorem okAt_of {n : Nat} {d : List St} {i : Nat} (h : i < d.length) : okAt n d i ↔ ∀ k, okArc n d[i].arcs k := by
  constructor
  · intro g k
    exact g d[i] (List.getElem?_eq_getElem h) k
  · intro g s hs k
    rw [List.getElem?_eq_getElem h] at hs
    cases hs
    exact g k
theorem row_iff (n : Nat) (l : List Arc) : (∀ k, okArc n l k) ↔ Row n 256 l := by
  constructor
  · intro h
    refine ⟨fun k hk => ?_, fun k hk => ?_⟩
    · have := h k hk
      omega
    · have := (h (k + 1) hk).2.2.2.2.2 (by omega)
      simpa using this
  · intro h k hk
    have h1 := h.1 k hk
    refine ⟨by omega, by omega, by omega, by omega, by omega, fun h0 => ?_⟩
    have := h.2 (k - 1) (by omega)
    simp only [show k - 1 + 1 = k by omega] at this
    exact this
theorem check_iff (d : List St) : check d = 0 ↔ Fits d := by
  unfold check
  split
  · rename_i h
    constructor
    · intro e; exact absurd e (by decide)
    · intro f; have := f.pos; omega
  · split
    · rename_i h
      constructor
      · intro e; exact absurd e (by decide)
      · intro f; have := f.top; omega
    · split
      · rename_i h0 h1 h
        exact ⟨fun _ => ⟨by omega, by omega, fun i hi => (row_iff _ _).1 ((okAt_of hi).1 (h i hi))⟩, fun _ => rfl⟩
      · rename_i h0 h1 h
        constructor
        · intro e; exact absurd e (by decide)
        · intro f; exact absurd (fun i hi => (okAt_of hi).2 ((row_iff _ _).2 (f.row i hi))) h
end Au

end Go.Proofs.Ytpoeklgoepjikaa

/-
  The given Accepts.
-/
namespace Go.Proofs.Ytpoeklgoepjikaa
open Go.RowKit
namespace Au
/-- A state, or -1 for none. -/
def code : Option Nat → Int
  | none => -1
  | some k => k
open Classical in
/-- Is a text taken? -/
noncomputable def takesL (d : List St) (s : List UInt8) : Bool := decide (Fits d) && (ofL d).acc (some 0) (s.map UInt8.toNat)
theorem step_code {d : List St} (h : Fits d) (x : Option Nat) (c : Nat) : step d (code x) c = code (x.bind fun k => (ofL d).step k c) := by
  cases x with
  | none => simp [step, code]
  | some k =>
    simp only [code, Option.bind_some]
    unfold step
    by_cases hk : k < d.length
    · rw [if_neg (by omega), Int.toNat_natCast, List.getElem?_eq_getElem hk]
      simp only [ofL, List.getElem?_eq_getElem hk]
      cases hl : look d[k].arcs (c : Int) with
      | none => rfl
      | some t =>
        have := look_in (n := d.length) (fun j hj => by have := (h.row k hk).1 j hj; omega) hl
        simp only [Option.map_some, Option.getD_some]
        change t = ((t.toNat : Nat) : Int)
        omega
    · rw [if_pos (by omega)]
      simp only [ofL, List.getElem?_eq_none (by omega : d.length ≤ k)]
theorem acc_step {σ : Type} (A : Auto σ) (x : Option σ) (c : Nat) (w : List Nat) : A.acc x (c :: w) = A.acc (x.bind fun k => A.step k c) w := by
  cases x with
  | none => simp [acc_none]
  | some k => rfl
end Au

end Go.Proofs.Ytpoeklgoepjikaa

/-
  The given to: where a byte leads, if anything is taken from there.
-/
namespace Go.Proofs.Ytpoeklgoepjikaa
open Go.RowKit
namespace Au
theorem dead_at {d : List St} {t : Nat} (ht : t < (deadL d).length) : (deadL d)[t] = true ↔ Dead (ofL d) (some t) := by
  rw [← has_get ht, deadL, has_setOf]
  have : t < d.length := by rw [deadL, setOf_length] at ht; exact ht
  exact ⟨fun h => h.2, fun h => ⟨this, h⟩⟩
theorem deadL_length (d : List St) : (deadL d).length = d.length := setOf_length _ _
end Au

end Go.Proofs.Ytpoeklgoepjikaa

/-
  A table of bools in memory; the given unlike.
-/
namespace Go.Proofs.Ytpoeklgoepjikaa
open Go.RowKit

/-- Block gm is a row of n rows of n bools, each in a block of its own. -/
structure MatB (w : World) (gm : Nat) (gs : Nat → Nat) (n : Nat) (M : Nat → Nat → Bool) : Prop where
  top : w.rowIs gm 50 n (fun i => .slice (some ⟨gs i, 0, none⟩) n n)
  row : ∀ i, i < n → w.rowIs (gs i) 4 n (fun k => .bool (M i k))
  ne : ∀ i, i < n → gs i ≠ gm
  inj : ∀ i j, i < n → j < n → gs i = gs j → i = j
theorem MatB.cells {w : World} {gm : Nat} {gs : Nat → Nat} {n : Nat} {M : Nat → Nat → Bool} (h : MatB w gm gs n M) {i k : Nat} (hi : i < n) (hk : k < n) : w.cell? ⟨gm, i, none⟩ = some (.slice (some ⟨gs i, 0, none⟩) n n) ∧ w.cell? ⟨gs i, k, none⟩ = some (.bool (M i k)) ∧ w.frozen? ⟨gs i, k, none⟩ = false :=
  ⟨h.top.cell hi, (h.row i hi).cell hk, (h.row i hi).frozen k⟩
theorem MatB.other {w w' : World} {gm : Nat} {gs : Nat → Nat} {n : Nat} {M : Nat → Nat → Bool} (h : MatB w gm gs n M) (e : ∀ g, (g = gm ∨ ∃ i, i < n ∧ g = gs i) → w'.heap[g]? = w.heap[g]?) : MatB w' gm gs n M :=
  ⟨h.top.of_block (e gm (.inl rfl)), fun i hi => (h.row i hi).of_block (e _ (.inr ⟨i, hi, rfl⟩)), h.ne, h.inj⟩
theorem MatB.below {w w' : World} {gm : Nat} {gs : Nat → Nat} {n : Nat} {M : Nat → Nat → Bool} (h : MatB w gm gs n M) (hb : Below w.heap.size w w') : MatB w' gm gs n M :=
  h.other fun g hg => by
    rcases hg with rfl | ⟨i, hi, rfl⟩
    · exact hb.block _ h.top.lt
    · exact hb.block _ (h.row i hi).lt
/-- A store into one place. -/
theorem MatB.set {w : World} {gm : Nat} {gs : Nat → Nat} {n : Nat} {M : Nat → Nat → Bool} (h : MatB w gm gs n M) (i k : Nat) (hi : i < n) (b : Bool) : MatB (w.setCell ⟨gs i, k, none⟩ (.bool b)) gm gs n (fun x y => if x = i ∧ y = k then b else M x y) := by
  refine ⟨h.top.setOther (fun e => h.ne i hi e.symm) _, fun x hx => ?_, h.ne, h.inj⟩
  by_cases e : x = i
  · subst e
    refine ((h.row x hx).set k (.bool b)).congr fun y _ => ?_
    by_cases ey : y = k <;> simp [ey]
  · refine ((h.row x hx).setOther (fun e' => e (h.inj x i hx hi e')) _).congr fun y _ => ?_
    simp [e]

namespace Au
/-- Do two that a byte leads to differ? -/
def differ (M : Nat → Nat → Bool) : Option Nat → Option Nat → Bool
  | none, none => false
  | some x, some y => M x y
  | _, _ => true
/-- Does a byte lead two states to such as differ? -/
noncomputable def unlike (d : List St) (M : Nat → Nat → Bool) (i k : Nat) : Bool := (List.range 256).any fun c => differ M ((ofL d).go i c) ((ofL d).go k c)
theorem unlike_iff (d : List St) (M : Nat → Nat → Bool) (i k : Nat) : unlike d M i k = true ↔ ∃ c, c < 256 ∧ differ M ((ofL d).go i c) ((ofL d).go k c) = true := by
  unfold unlike
  rw [List.any_eq_true]
  constructor
  · rintro ⟨c, hc, h⟩
    exact ⟨c, List.mem_range.1 hc, h⟩
  · rintro ⟨c, hc, h⟩
    exact ⟨c, List.mem_range.2 hc, h⟩
end Au

end Go.Proofs.Ytpoeklgoepjikaa

/-
  The given apart: which states some text tells apart.
-/
namespace Go.Proofs.Ytpoeklgoepjikaa
open Go.RowKit

theorem Try.infoBB : (Try.prog.info? 50).map (fun i => (i.zero, i.size, i.bytes)) = some (some (.slice none 0 0), 1, 24) := by kernel_rfl

/-- A table of which the first rows are laid, all from block B on. -/
structure MatR (w : World) (B gm : Nat) (gs : Nat → Nat) (n r : Nat) (M : Nat → Nat → Bool) : Prop where
  top : w.rowIs gm 50 n (fun i => if i < r then .slice (some ⟨gs i, 0, none⟩) n n else .slice none 0 0)
  row : ∀ i, i < r → w.rowIs (gs i) 4 n (fun k => .bool (M i k))
  ne : ∀ i, i < r → gs i ≠ gm
  inj : ∀ i j, i < r → j < r → gs i = gs j → i = j
  base : B ≤ gm ∧ ∀ i, i < r → B ≤ gs i
theorem MatR.mat {w : World} {B gm : Nat} {gs : Nat → Nat} {n : Nat} {M : Nat → Nat → Bool} (h : MatR w B gm gs n n M) : MatB w gm gs n M :=
  ⟨h.top.congr fun i hi => by rw [if_pos hi], h.row, h.ne, h.inj⟩
theorem MatR.other {w w' : World} {B gm : Nat} {gs : Nat → Nat} {n r : Nat} {M : Nat → Nat → Bool} (h : MatR w B gm gs n r M) (e : ∀ g, (g = gm ∨ ∃ i, i < r ∧ g = gs i) → w'.heap[g]? = w.heap[g]?) : MatR w' B gm gs n r M :=
  ⟨h.top.of_block (e gm (.inl rfl)), fun i hi => (h.row i hi).of_block (e _ (.inr ⟨i, hi, rfl⟩)), h.ne, h.inj, h.base⟩
theorem MatR.lt {w : World} {B gm : Nat} {gs : Nat → Nat} {n r : Nat} {M : Nat → Nat → Bool} (h : MatR w B gm gs n r M) {g : Nat} (hg : g = gm ∨ ∃ i, i < r ∧ g = gs i) : g < w.heap.size := by
  rcases hg with rfl | ⟨i, hi, rfl⟩
  · exact h.top.lt
  · exact (h.row i hi).lt
theorem MatR.below {w w' : World} {B gm : Nat} {gs : Nat → Nat} {n r : Nat} {M : Nat → Nat → Bool} (h : MatR w B gm gs n r M) (hb : Below w.heap.size w w') : MatR w' B gm gs n r M := h.other fun g hg => hb.block g (h.lt hg)
theorem MatR.set {w : World} {B gm : Nat} {gs : Nat → Nat} {n r : Nat} {M : Nat → Nat → Bool} (h : MatR w B gm gs n r M) (i k : Nat) (hi : i < r) (b : Bool) : MatR (w.setCell ⟨gs i, k, none⟩ (.bool b)) B gm gs n r (fun x y => if x = i ∧ y = k then b else M x y) := by
  refine ⟨h.top.setOther (fun e => h.ne i hi e.symm) _, fun x hx => ?_, h.ne, h.inj, h.base⟩
  by_cases e : x = i
  · subst e
    refine ((h.row x hx).set k (.bool b)).congr fun y _ => ?_
    by_cases ey : y = k <;> simp [ey]
  · refine ((h.row x hx).setOther (fun e' => e (h.inj x i hx hi e')) _).congr fun y _ => ?_
    simp [e]
/-- One row more, of noughts. -/
theorem MatR.push {w : World} {B gm : Nat} {gs : Nat → Nat} {n r : Nat} {M : Nat → Nat → Bool} (h : MatR w B gm gs n r M) (hB : B ≤ w.heap.size) :
    MatR ((w.setCell ⟨gm, r, none⟩ (.slice (some ⟨w.heap.size, 0, none⟩) n n)).alloc (.cells (madeCells #[.bool false] n) 4)) B gm (fun i => if i = r then w.heap.size else gs i) n (r + 1) (fun x y => if x = r then false else M x y) := by
  have hgm := h.top.lt
  have hge : gm ≠ w.heap.size := by omega
  have hsz : (w.setCell ⟨gm, r, none⟩ (.slice (some ⟨w.heap.size, 0, none⟩) n n)).heap.size = w.heap.size := Go.Deep.nblk_setCell _ _ _
  refine ⟨?_, fun i hi => ?_, fun i hi => ?_, fun i j hi hj e => ?_, h.base.1, fun i hi => ?_⟩
  · refine ((h.top.set r _).alloc _).congr fun i _ => ?_
    by_cases e : i = r
    · subst e
      simp
    · by_cases hl : i < r
      · rw [if_neg e, if_pos hl, if_pos (by omega), if_neg e]
      · rw [if_neg e, if_neg hl, if_neg (by omega)]
  · by_cases e : i = r
    · subst e
      simp only [if_true]
      have h1 := World.rowIs_made (w.setCell ⟨gm, i, none⟩ (.slice (some ⟨w.heap.size, 0, none⟩) n n)) (.bool false) n 4
      rw [hsz] at h1
      exact h1
    · simp only [e, if_false]
      exact ((h.row i (by omega)).setOther (h.ne i (by omega)) _).alloc _
  · by_cases e : i = r
    · simp only [e, if_true]
      omega
    · simp only [e, if_false]
      exact h.ne i (by omega)
  · by_cases ei : i = r <;> by_cases ej : j = r
    · rw [ei, ej]
    · simp only [ei, ej, if_true, if_false] at e
      have := (h.row j (by omega)).lt
      omega
    · simp only [ei, ej, if_true, if_false] at e
      have := (h.row i (by omega)).lt
      omega
    · simp only [ei, ej, if_false] at e
      exact h.inj i j (by omega) (by omega) e
  · by_cases e : i = r
    · simp only [e, if_true]
      exact hB
    · simp only [e, if_false]
      exact h.base.2 i (by omega)

namespace Au
/-- What is known of a table of states that are apart. -/
structure Far (d : List St) (M : Nat → Nat → Bool) : Prop where
  apart : ∀ i k, i < d.length → k < d.length → M i k = true → ¬ Eqv (ofL d) (ofL d) i k
  fin : ∀ i k, i < d.length → k < d.length → M i k = false → (ofL d).fin i = (ofL d).fin k
theorem not_dead {σ : Type} {A : Auto σ} {x : Option σ} (h : ¬ Dead A x) : ∃ w, A.acc x w = true := by
  apply Classical.byContradiction
  intro h'
  apply h
  intro w
  cases e : A.acc x w with
  | false => rfl
  | true => exact absurd ⟨w, e⟩ h'
theorem not_eqv {σ : Type} {A : Auto σ} {x y : σ} (h : ¬ Eqv A A x y) : ∃ w, A.acc (some x) w ≠ A.acc (some y) w := by
  apply Classical.byContradiction
  intro h'
  apply h
  intro w
  exact Classical.byContradiction fun e => h' ⟨w, e⟩
theorem Far.more {d : List St} (hf : Fits d) {M : Nat → Nat → Bool} (h : Far d M) {i k : Nat} (hu : unlike d M i k = true) : Far d (fun x y => if x = i ∧ y = k then true else M x y) := by
  obtain ⟨c, _, hd⟩ := (unlike_iff d M i k).1 hu
  have hne : ¬ Eqv (ofL d) (ofL d) i k := by
    intro e
    rcases go_eqv e c with ⟨h1, h2⟩ | ⟨x, y, h1, h2, h3⟩
    · rw [h1, h2] at hd
      cases hd
    · rw [h1, h2] at hd
      exact h.apart x y (ofL_in hf.row (go_some h1).1) (ofL_in hf.row (go_some h2).1) hd h3
  refine ⟨fun x y hx hy hb => ?_, fun x y hx hy hb => ?_⟩
  · by_cases e : x = i ∧ y = k
    · rw [e.1, e.2]; exact hne
    · rw [if_neg e] at hb
      exact h.apart x y hx hy hb
  · by_cases e : x = i ∧ y = k
    · rw [if_pos e] at hb; cases hb
    · rw [if_neg e] at hb
      exact h.fin x y hx hy hb
theorem Far.done {d : List St} (hf : Fits d) {M : Nat → Nat → Bool} (h : Far d M) (hc : ∀ i k, i < d.length → k < d.length → M i k = false → unlike d M i k = false) {i k : Nat} (hi : i < d.length) (hk : k < d.length) : M i k = !(ofL d).same i k := by
  have key : ∀ w i k, i < d.length → k < d.length → M i k = false → (ofL d).acc (some i) w = (ofL d).acc (some k) w := by
    intro w
    induction w with
    | nil =>
      intro i k hi hk hm
      exact h.fin i k hi hk hm
    | cons c w ih =>
      intro i k hi hk hm
      rw [acc_cons, acc_cons]
      by_cases hc256 : 256 ≤ c
      · rw [ofL_top hf.row i c hc256, ofL_top hf.row k c hc256]
      · have hu := hc i k hi hk hm
        have hd : differ M ((ofL d).go i c) ((ofL d).go k c) = false := by
          rw [← Bool.not_eq_true] at hu ⊢
          exact fun e => hu ((unlike_iff d M i k).2 ⟨c, by omega, e⟩)
        cases h1 : (ofL d).go i c with
        | none =>
          cases h2 : (ofL d).go k c with
          | none => rw [go_none h1 w, go_none h2 w]
          | some y => rw [h1, h2] at hd; cases hd
        | some x =>
          cases h2 : (ofL d).go k c with
          | none => rw [h1, h2] at hd; cases hd
          | some y =>
            rw [h1, h2] at hd
            obtain ⟨g1, _⟩ := go_some h1
            obtain ⟨g2, _⟩ := go_some h2
            rw [g1, g2]
            exact ih x y (ofL_in hf.row g1) (ofL_in hf.row g2) hd
  cases hm : M i k with
  | false =>
    rw [(same_iff (ofL d) i k).2 (fun w => key w i k hi hk hm)]
    rfl
  | true =>
    have := h.apart i k hi hk hm
    cases hs : (ofL d).same i k with
    | false => rfl
    | true => exact absurd ((same_iff (ofL d) i k).1 hs) this
/-- How many places of a table are not set. -/
def unset (n : Nat) (M : Nat → Nat → Bool) : Nat := (List.range (n * n)).countP fun p => !M (p / n) (p % n)
theorem countP_lt {α : Type} (p q : α → Bool) (l : List α) (h : ∀ x ∈ l, q x = true → p x = true) (x : α) (hx : x ∈ l) (hp : p x = true) (hq : q x = false) : l.countP q < l.countP p := by
  induction l with
  | nil => cases hx
  | cons a r ih =>
    rw [List.countP_cons, List.countP_cons]
    have hle : r.countP q ≤ r.countP p := List.countP_mono_left fun x hx hq => h x (List.mem_cons_of_mem _ hx) hq
    rcases List.mem_cons.1 hx with rfl | hr
    · simp only [hp, hq, if_true, Bool.false_eq_true, if_false]
      omega
    · have h1 := ih (fun y hy => h y (List.mem_cons_of_mem _ hy)) hr
      have h2 := h a (List.mem_cons_self ..)
      by_cases ha : q a = true
      · simp only [ha, h2 ha, if_true]
        omega
      · have ha' : q a = false := by simpa using ha
        rw [ha']
        simp only [Bool.false_eq_true, if_false]
        split <;> omega
theorem unset_lt {n : Nat} {M : Nat → Nat → Bool} {i k : Nat} (hi : i < n) (hk : k < n) (hm : M i k = false) : unset n (fun x y => if x = i ∧ y = k then true else M x y) < unset n M := by
  unfold unset
  have hd : (i * n + k) / n = i := by rw [Nat.mul_comm, Nat.mul_add_div (by omega), Nat.div_eq_of_lt hk, Nat.add_zero]
  have hmod : (i * n + k) % n = k := by rw [Nat.mul_comm, Nat.mul_add_mod, Nat.mod_eq_of_lt hk]
  refine countP_lt _ _ _ (fun p _ hq => ?_) (i * n + k) ?_ ?_ ?_
  · by_cases e : p / n = i ∧ p % n = k
    · simp [e] at hq
    · simpa [e] using hq
  · rw [List.mem_range]
    calc i * n + k < i * n + n := by omega
      _ = (i + 1) * n := by rw [Nat.add_mul, Nat.one_mul]
      _ ≤ n * n := Nat.mul_le_mul_right _ (by omega)
  · rw [hd, hmod, hm]; rfl
  · rw [hd, hmod]; simp
def left3 (n : Nat) : Bool → (Nat → Nat → Bool) → Nat
  | true, M => unset n M + 1
  | false, _ => 0
/-- A pass over the table, up to row i, place k. -/
def Pass6 (d : List St) (M M' : Nat → Nat → Bool) (m : Bool) (i k : Nat) : Prop := (m = false ∧ M' = M ∧ (∀ x y, x < i → y < d.length → M x y = false → unlike d M x y = false) ∧ ∀ y, y < k → M i y = false → unlike d M i y = false) ∨ (m = true ∧ unset d.length M' < unset d.length M)
end Au
end Go.Proofs.Ytpoeklgoepjikaa

/-
  The given apart: the walk.
-/
namespace Go.Proofs.Ytpoeklgoepjikaa
open Go.RowKit

/-- What the first table says: whether one alone of two is final. -/
def Au.fins (d : List Au.St) (r q : Nat) (M : Nat → Nat → Bool) : Prop := ∀ x y, x < d.length → y < d.length → (x < r ∨ x = r ∧ y < q) → M x y = ((Au.ofL d).fin x != (Au.ofL d).fin y)

end Go.Proofs.Ytpoeklgoepjikaa

/-
  Lists of the call's own: of states' numbers, of arcs, of states; append onto them; what else stays.
-/
namespace Go.Proofs.Ytpoeklgoepjikaa
open Go.RowKit

theorem heap_other (w : World) (b i k : Nat) (v : Value) (h : k ≠ b) : (w.setCell ⟨b, i, none⟩ v).heap[k]? = w.heap[k]? :=
  Below.heap_setCell _ _ _ _ (by first | exact h | exact fun e => h e.symm | exact fun e => h e)
/-- Nothing but what F says has turned of what lay there. -/
structure KeptF (F : Nat → Prop) (w w' : World) : Prop where
  os : w'.os = w.os
  tape : w'.tape = w.tape
  output : w'.output = w.output
  size : w.heap.size ≤ w'.heap.size
  block : ∀ k, k < w.heap.size → ¬ F k → w'.heap[k]? = w.heap[k]?
theorem KeptF.refl (F : Nat → Prop) (w : World) : KeptF F w w := ⟨rfl, rfl, rfl, Nat.le_refl _, fun _ _ _ => rfl⟩
theorem KeptF.trans {F : Nat → Prop} {w w' w'' : World} (h : KeptF F w w') (k : KeptF F w' w'') : KeptF F w w'' :=
  ⟨k.os.trans h.os, k.tape.trans h.tape, k.output.trans h.output, Nat.le_trans h.size k.size, fun i hi hf => (k.block i (Nat.lt_of_lt_of_le hi h.size) hf).trans (h.block i hi hf)⟩
theorem KeptF.mono {F G : Nat → Prop} {w w' : World} (h : KeptF F w w') (hm : ∀ k, k < w.heap.size → F k → G k) : KeptF G w w' :=
  ⟨h.os, h.tape, h.output, h.size, fun i hi hf => h.block i hi (fun hF => hf (hm i hi hF))⟩
theorem KeptF.of_below {F : Nat → Prop} {w w' : World} (h : Below w.heap.size w w') : KeptF F w w' := ⟨h.os, h.tape, h.output, h.size, fun k hk _ => h.block k hk⟩
theorem KeptF.set {F : Nat → Prop} {w w' : World} (h : KeptF F w w') (b i : Nat) (hb : F b) (v : Value) : KeptF F w (w'.setCell ⟨b, i, none⟩ v) :=
  h.trans ⟨rfl, rfl, rfl, by simp [World.setCell], fun k _ hk => heap_other _ _ _ _ _ (fun e => hk (e ▸ hb))⟩
theorem KeptF.drew {F : Nat → Prop} {w w' : World} (h : KeptF F w w') : KeptF F w w'.drew := h.trans ⟨rfl, rfl, rfl, Nat.le_refl _, fun _ _ _ => rfl⟩
theorem KeptF.below {F : Nat → Prop} {B : Nat} {w0 w w' : World} (h : Below B w0 w) (k : KeptF F w w') (hF : ∀ k, F k → B ≤ k) (hB : B ≤ w.heap.size) : Below B w0 w' :=
  h.trans ⟨k.os, k.tape, k.output, k.size, fun i hi => k.block i (by omega) (fun hf => by have := hF i hf; omega)⟩

/-- A list that lies where nothing has turned. -/
theorem ownsRow_keep {w w' : World} {B : Nat} {t : TypeId} {z : Nat} {v : Value} {n : Nat} {xs : List Value} (h : w.ownsRow B t z v n xs) (e : ∀ k, v.ownBlock = some k → w'.heap[k]? = w.heap[k]?) : w'.ownsRow B t z v n xs := by
  refine ⟨h.1, ?_⟩
  rcases h.2 with h1 | ⟨g, cap, cur, rfl, hg, hh, hr⟩
  · exact .inl h1
  · exact .inr ⟨g, cap, cur, rfl, hg, (e g rfl).trans hh, hr⟩
theorem ownsRow_base {w : World} {B C : Nat} {t : TypeId} {z : Nat} {v : Value} {n : Nat} {xs : List Value} (h : w.ownsRow B t z v n xs) (hC : C ≤ B) : w.ownsRow C t z v n xs := by
  refine ⟨h.1, ?_⟩
  rcases h.2 with h1 | ⟨g, cap, cur, rfl, hg, hh, hr⟩
  · exact .inl h1
  · exact .inr ⟨g, cap, cur, rfl, Nat.le_trans hC hg, hh, hr⟩
section
variable {P : Program} (w : World)
/-- append onto an own row: in place, and nothing else turns; or into a new block, and nothing old turns at all. -/
theorem run_append_two (base : Nat) (t ty e : TypeId) (i : TypeInfo) (z : Value) (size bytes : Nat) (ht : P.underlying t = some (.slice e)) (hi : P.info? e = some i) (hz : i.zero = some z)
    (hsize : i.size = size) (hby : i.bytes = bytes) (hzs : z.cells.size = size) (hsz : 0 < size)
    (v : Value) (n : Nat) (xs : List Value) (hown : w.ownsRow base e size v n xs)
    (a : Addr) (m c : Nat) (news : List Value) (hl : news.length = m * size) (hnews : ∀ j u, news[j]? = some u → w.cell? (a.add j) = some u) (h1 : ∀ u ∈ news, u.oneCell' = true)
    (h63 : n + m ≤ maxLen) (hbytes : (n + m) * bytes ≤ 140737488355328) (hbase : base ≤ w.heap.size) :
    ∃ v' w', (Builtin.append_ #[t, t] ty #[v, .slice (some a) m c]).run P w = .ok v' w' ∧ w'.ownsRow base e size v' (n + m) (xs ++ news) ∧
      ((v'.ownBlock = v.ownBlock ∧ w.grownBy w' v.ownBlock) ∨ ((∀ b, v'.ownBlock = some b → w.heap.size ≤ b) ∧ w.grownBy w' none)) := by
  obtain ⟨v', w', hr, h2, h3, _, h5⟩ := run_append_own_at (P := P) w base t ty e i z size bytes ht hi hz hsize hby hzs hsz v n xs hown a m c news hl hnews h1 h63 hbytes hbase
  rcases hown.2 with ⟨rfl, rfl⟩ | ⟨g, cap, cur, rfl, hbg, hg, hnc, hcm, hcs, htake⟩
  · refine ⟨v', w', hr, h2, .inr ⟨fun b hb => ?_, h3⟩⟩
    rcases h5 with h5 | h5
    · rw [h5] at hb; cases hb
    · rw [h5] at hb; cases hb; exact Nat.le_refl _
  · by_cases hroom : n + m ≤ cap
    · have hfit : n * i.size + news.length ≤ cur.size := by rw [hl, hcs, hsize, ← Nat.add_mul]; exact Nat.mul_le_mul_right _ hroom
      have hr2 := run_append_room (P := P) w t ty e i ht hi g n cap cur hg a m c news (by rw [hsize]; exact hl) hnews h1 hroom hfit
      rw [hr] at hr2
      injection hr2 with e1 e2
      exact ⟨v', w', hr, h2, .inl ⟨by rw [e1]; rfl, h3⟩⟩
    · have holds : ∀ j u, xs[j]? = some u → w.cell? ((⟨g, 0, none⟩ : Addr).add j) = some u := hown.cells (g := g) rfl
      obtain ⟨v2, w2, hr2, h6, h7⟩ := run_append_arg_grows (P := P) w t ty e i z size bytes ht hi hz hsize hby hzs hsz ⟨g, 0, none⟩ n cap xs hown.1 holds a m c news hl hnews (by omega) h63 hbytes
      exact ⟨v2, w2, hr2, ownsRow_base h6 hbase, .inr ⟨fun b hb => (h6.lt b hb).1, h7⟩⟩
theorem wpList_append_two {ops : Array Oper} {rest : List Oper} {o : Oper} {a : Act} {Q : Exit → Act → World → Prop} (hgd : o.guard = none) (s x : Operand) (t : TypeId)
    (ho : o.op = .call { callee := .builtin .append, args := #[s, x], argTypes := #[t, t] })
    (base : Nat) (e : TypeId) (i : TypeInfo) (z : Value) (size bytes : Nat) (ht : P.underlying t = some (.slice e)) (hi : P.info? e = some i) (hz : i.zero = some z)
    (hsize : i.size = size) (hby : i.bytes = bytes) (hzs : z.cells.size = size) (hsz : 0 < size)
    (v : Value) (n : Nat) (xs : List Value) (hs : a.eval s = v) (hown : w.ownsRow base e size v n xs)
    (ad : Addr) (m c : Nat) (news : List Value) (hx : a.eval x = .slice (some ad) m c) (hl : news.length = m * size) (hnews : ∀ j u, news[j]? = some u → w.cell? (ad.add j) = some u) (h1 : ∀ u ∈ news, u.oneCell' = true)
    (h63 : n + m ≤ maxLen) (hbytes : (n + m) * bytes ≤ 140737488355328) (hbase : base ≤ w.heap.size)
    (h : ∀ v' w', w'.ownsRow base e size v' (n + m) (xs ++ news) → ((v'.ownBlock = v.ownBlock ∧ w.grownBy w' v.ownBlock) ∨ ((∀ b, v'.ownBlock = some b → w.heap.size ≤ b) ∧ w.grownBy w' none)) → wpList P ops Q rest (a.put o.dst v') w') :
    wpList P ops Q (o :: rest) a w := by
  refine wpList_plain hgd fun K hK => ?_
  obtain ⟨v', w', hr, h2, h3⟩ := run_append_two (P := P) w base t o.type e i z size bytes ht hi hz hsize hby hzs hsz v n xs hown ad m c news hl hnews h1 h63 hbytes hbase
  unfold Oper.wp execOp
  simp only [ho, resolve, invoke, builtin, Sem.run_bind, Sem.run_pure, Result.andThen_ok, List.map_toArray, List.map_cons, List.map_nil, hs, hx, hr]
  exact hK _ _ (h v' w' h2 h3)
end

namespace Ap
/-- What an append may have done: in place, or in a new block. -/
def Two (w w' : World) (v v' : Value) : Prop := (v'.ownBlock = v.ownBlock ∧ w.grownBy w' v.ownBlock) ∨ ((∀ b, v'.ownBlock = some b → w.heap.size ≤ b) ∧ w.grownBy w' none)
theorem Two.far {w w' : World} {v v' : Value} (h : Two w w' v v') {k : Nat} (hk : k < w.heap.size) (hv : v.ownBlock ≠ some k) : w'.heap[k]? = w.heap[k]? := by
  rcases h with ⟨_, h⟩ | ⟨_, h⟩
  · exact h.block k hk (fun e => hv e.symm)
  · exact h.block k hk (fun e => by cases e)
theorem Two.at {w w' : World} {v v' : Value} (h : Two w w' v v') {b : Nat} (hb : v'.ownBlock = some b) : v.ownBlock = some b ∨ w.heap.size ≤ b := by
  rcases h with ⟨h, _⟩ | ⟨h, _⟩
  · exact .inl (h ▸ hb)
  · exact .inr (h b hb)
theorem Two.size {w w' : World} {v v' : Value} (h : Two w w' v v') : w.heap.size ≤ w'.heap.size := by
  rcases h with ⟨_, h⟩ | ⟨_, h⟩ <;> exact h.size
theorem Two.rest {w w' : World} {v v' : Value} (h : Two w w' v v') : w'.os = w.os ∧ w'.tape = w.tape ∧ w'.output = w.output := by
  rcases h with ⟨_, h⟩ | ⟨_, h⟩ <;> exact ⟨h.os, h.tape, h.output⟩
theorem Two.drop {w w' : World} {v v' : Value} {o : Obj} (h : Two (w.alloc o) w' v v') : Two w w' v v' := by
  rcases h with ⟨h1, h⟩ | ⟨h1, h⟩
  · exact .inl ⟨h1, h.os, h.tape, h.output, Nat.le_trans (by simp) h.size, fun k hk hv => (h.block k (by simp; omega) hv).trans (Go.Deep.blk_alloc_lt w _ _ hk)⟩
  · exact .inr ⟨fun b hb => Nat.le_trans (by simp) (h1 b hb), h.os, h.tape, h.output, Nat.le_trans (by simp) h.size, fun k hk hv => (h.block k (by simp; omega) hv).trans (Go.Deep.blk_alloc_lt w _ _ hk)⟩
end Ap
theorem Try.infoN : (Try.prog.info? 3).map (fun i => (i.zero, i.size, i.bytes)) = some (some (.int .i64 0), 1, 8) := by kernel_rfl

/-- Numbers as cells. -/
def natsV (l : List Nat) : List Value := l.map (fun (c : Nat) => .int .i64 (c : Int))

theorem natsV_snoc (l : List Nat) (c : Nat) : natsV l ++ [.int .i64 c] = natsV (l ++ [c]) := by simp [natsV]

theorem natsV_append (l r : List Nat) : natsV l ++ natsV r = natsV (l ++ r) := by simp [natsV]

theorem natsV_length (l : List Nat) : (natsV l).length = l.length := by simp [natsV]

/-- The slice v is the call's own, from block B on, and holds these numbers. -/
def OwnN (w : World) (B : Nat) (v : Value) (l : List Nat) : Prop := w.ownsRow B 3 1 v l.length (natsV l)

/-- Behind an append of one number. -/
theorem ownN_push {w wr w1 : World} {B : Nat} {v v' : Value} {l : List Nat} {c : Nat} {o : Obj} (hB : B ≤ wr.heap.size) (h : OwnN wr B v l) (hb : Below B w wr)
    (h1 : w1.ownsRow B 3 1 v' (l.length + 1) (natsV l ++ [.int .i64 c])) (hg : (wr.alloc o).grownBy w1 v.ownBlock) :
    OwnN w1 B v' (l ++ [c]) ∧ Below B w w1 := by
  have hown : wr.ownsRow B 3 1 v l.length (natsV l) := h
  refine ⟨?_, (hb.alloc hB o).grown hg (by simp; omega) (fun j hj => (hown.lt j hj).1)⟩
  unfold OwnN
  rw [natsV_snoc] at h1
  simpa using h1

/-- An own slice, its cells told one by one. -/
theorem ownN_cells {w : World} {B : Nat} {v : Value} {l : List Nat} (h : OwnN w B v l) : ∃ a cap, v = .slice a l.length cap ∧ (0 < l.length → ∃ g, a = some ⟨g, 0, none⟩ ∧ g < w.heap.size ∧ ∀ j (hj : j < l.length), w.cell? ⟨g, j, none⟩ = some (.int .i64 l[j])) := by
  have hown : w.ownsRow B 3 1 v l.length (natsV l) := h
  rcases h.2 with ⟨rfl, h0⟩ | ⟨g, cap, cur, rfl, hg, hh, hnc, hcp, hcs, htake⟩
  · exact ⟨none, 0, by rw [h0], fun h => by omega⟩
  · refine ⟨_, _, rfl, fun h => ⟨g, rfl, (hown.lt g rfl).2, fun j hj => ?_⟩⟩
    rw [hown.cellAt j (by omega)]
    simp [natsV, hj]

/-- The value v is a slice of these numbers. -/
def NatS (w : World) (v : Value) (xs : List Nat) : Prop :=
  ∃ a cap, v = .slice a xs.length cap ∧ xs.length ≤ cap ∧ cap ≤ 9223372036854775807 ∧ (0 < xs.length → ∃ g o, a = some ⟨g, o, none⟩ ∧ g < w.heap.size ∧ ∀ j (_ : j < xs.length), w.cell? ⟨g, o + j, none⟩ = some (.int .i64 xs[j]))

theorem NatS.below {w w' : World} {B : Nat} {v : Value} {xs : List Nat} (h : NatS w v xs) (hb : Below B w w') (hB : w.heap.size ≤ B) : NatS w' v xs := by
  obtain ⟨a, cap, h1, h2, h3, h4⟩ := h
  refine ⟨a, cap, h1, h2, h3, fun h0 => ?_⟩
  obtain ⟨g, o, h5, h6, h7⟩ := h4 h0
  exact ⟨g, o, h5, Nat.lt_of_lt_of_le h6 hb.size, fun j hj => (hb.cell (p := ⟨g, o + j, none⟩) (Nat.lt_of_lt_of_le h6 hB)).trans (h7 j hj)⟩

theorem OwnN.ints {w : World} {B : Nat} {v : Value} {l : List Nat} (h : OwnN w B v l) (_ : l.length ≤ 140737488355328) : NatS w v l := by
  rcases h.2 with ⟨rfl, h0⟩ | ⟨g, cap, cur, rfl, hg, hh, hnc, hcp, hcs, htake⟩
  · exact ⟨none, 0, by rw [h0], by omega, by omega, fun h => by omega⟩
  · have hown : w.ownsRow B 3 1 (.slice (some ⟨g, 0, none⟩) l.length cap) l.length (natsV l) := h
    refine ⟨_, cap, rfl, hnc, by unfold maxLen at hcp; omega, fun h => ⟨g, 0, rfl, (hown.lt g rfl).2, fun j hj => ?_⟩⟩
    rw [Nat.zero_add, hown.cellAt j (by omega)]
    simp [natsV, hj]

/-- Behind an append of numbers that lie elsewhere. -/
theorem ownN_pushAll {w wr w1 : World} {B : Nat} {v v' : Value} {l r : List Nat} (hB : B ≤ wr.heap.size) (h : OwnN wr B v l) (hb : Below B w wr)
    (h1 : w1.ownsRow B 3 1 v' (l.length + r.length) (natsV l ++ natsV r)) (hg : wr.grownBy w1 v.ownBlock) :
    OwnN w1 B v' (l ++ r) ∧ Below B w w1 := by
  have hown : wr.ownsRow B 3 1 v l.length (natsV l) := h
  refine ⟨?_, hb.grown hg hB (fun j hj => (hown.lt j hj).1)⟩
  unfold OwnN
  rw [natsV_append] at h1
  simpa using h1

/-- 'append(v, c)' of one number, which lies in a new block. -/
theorem wpList_pushN {ops : Array Oper} {rest : List Oper} {o : Oper} {a : Act} {Q : Exit → Act → World → Prop} {w : World} (hgd : o.guard = none) (s x : Operand)
    (ho : o.op = .call { callee := .builtin .append, args := #[s, x], argTypes := #[23, 23] })
    (B : Nat) (hB : B ≤ w.heap.size) (v : Value) (l : List Nat) (c : Nat) (hs : a.eval s = v) (h : OwnN w B v l) (hx : a.eval x = .slice (some ⟨w.heap.size, 0, none⟩) 1 1)
    (hb : l.length + 1 ≤ 17592186044416)
    (hk : ∀ v' w', OwnN w' B v' (l ++ [c]) → Below B w w' → (w.alloc (.cells #[.int .i64 c] 3)).grownBy w' v.ownBlock → wpList Try.prog ops Q rest (a.put o.dst v') w') :
    wpList Try.prog ops Q (o :: rest) a (w.alloc (.cells #[.int .i64 c] 3)) := by
  obtain ⟨ii, hi, hz0, hz1, hz2⟩ := info_parts Try.infoN
  have hown : w.ownsRow B 3 1 v l.length (natsV l) := h
  refine wpList_append_own _ hgd s x 23 ho B 3 ii (.int .i64 0) 1 8 Try.underlying23 hi hz0 hz1 hz2 rfl (by decide) _ _ _ hs (hown.alloc _) ⟨w.heap.size, 0, none⟩ 1 1 [.int .i64 c] hx rfl ?_ ?_ (by unfold maxLen; omega) (by omega) (by simp; omega) ?_
  · intro j u hj
    match j, hj with
    | 0, hj => simp at hj; subst hj; simp [Addr.add]
  · intro u hu
    simp at hu
    subst hu
    rfl
  · intro v' w' h1 h2 _
    obtain ⟨h3, h4⟩ := ownN_push hB h (Below.refl B w) h1 h2
    exact hk v' w' h3 h4 h2


/-- Arcs as cells. -/
def arcsV (l : List Au.Arc) : List Value := l.flatMap fun x => [.int .i64 x.lo, .int .i64 x.hi, .int .i64 x.to]
theorem arcsV_length (l : List Au.Arc) : (arcsV l).length = l.length * 3 := by
  induction l with
  | nil => rfl
  | cons x t ih =>
    show (_ :: _ :: _ :: arcsV t).length = _
    simp only [List.length_cons, ih]
    omega
theorem arcsV_snoc (l : List Au.Arc) (x : Au.Arc) : arcsV l ++ [.int .i64 x.lo, .int .i64 x.hi, .int .i64 x.to] = arcsV (l ++ [x]) := by simp [arcsV]
theorem arcsV_at (l : List Au.Arc) : ∀ i (h : i < l.length), (arcsV l)[i * 3]? = some (.int .i64 l[i].lo) ∧ (arcsV l)[i * 3 + 1]? = some (.int .i64 l[i].hi) ∧ (arcsV l)[i * 3 + 2]? = some (.int .i64 l[i].to) := by
  induction l with
  | nil => intro i h; cases h
  | cons x t ih =>
    intro i h
    cases i with
    | zero => exact ⟨rfl, rfl, rfl⟩
    | succ i =>
      simp only [List.length_cons, Nat.add_lt_add_iff_right] at h
      have e : (i + 1) * 3 = i * 3 + 1 + 1 + 1 := by omega
      rw [e]
      exact ih i h
theorem Try.infoA : (Try.prog.info? 44).map (fun i => (i.zero, i.size, i.bytes)) = some (some (.agg #[.int .i64 0, .int .i64 0, .int .i64 0]), 3, 24) := by kernel_rfl
/-- The slice v is the call's own, from block B on, and holds these arcs. -/
def OwnA (w : World) (B : Nat) (v : Value) (l : List Au.Arc) : Prop := w.ownsRow B 44 3 v l.length (arcsV l)
theorem OwnA.opened {w : World} {B : Nat} {v : Value} {l : List Au.Arc} (h : OwnA w B v l) : ∃ a cap, v = .slice a l.length cap ∧ l.length ≤ cap ∧ cap ≤ 9223372036854775807 ∧ (0 < l.length → ∃ g, a = some ⟨g, 0, none⟩ ∧ B ≤ g ∧ g < w.heap.size ∧ (∀ j, w.frozen? ⟨g, j, none⟩ = false) ∧
    ∀ j (_ : j < l.length), w.cell? ⟨g, j * 3, none⟩ = some (.int .i64 l[j].lo) ∧ w.cell? ⟨g, j * 3 + 1, none⟩ = some (.int .i64 l[j].hi) ∧ w.cell? ⟨g, j * 3 + 2, none⟩ = some (.int .i64 l[j].to)) := by
  rcases h.2 with ⟨rfl, h0⟩ | ⟨g, cap, cur, rfl, hg, hh, hnc, hcp, hcs, htake⟩
  · exact ⟨none, 0, by rw [h0], by omega, by omega, fun h => by omega⟩
  · have hown : w.ownsRow B 44 3 (.slice (some ⟨g, 0, none⟩) l.length cap) l.length (arcsV l) := h
    refine ⟨_, cap, rfl, hnc, by unfold maxLen at hcp; omega, fun _ => ⟨g, rfl, hg, (hown.lt g rfl).2, fun j => by simp [World.frozen?, hh], fun j hj => ?_⟩⟩
    obtain ⟨a1, a2, a3⟩ := arcsV_at l j hj
    exact ⟨(hown.cellAt _ (by omega)).trans a1, (hown.cellAt _ (by omega)).trans a2, (hown.cellAt _ (by omega)).trans a3⟩
theorem OwnA.arcs {w : World} {B : Nat} {v : Value} {l : List Au.Arc} (h : OwnA w B v l) (F : Nat → Prop) (hF : ∀ g, B ≤ g → F g) : ArcS F w v l := by
  obtain ⟨a, cap, h1, h2, h3, h4⟩ := h.opened
  refine ⟨a, cap, h1, h2, h3, fun h0 => ?_⟩
  obtain ⟨g, h5, h6, h7, _, h8⟩ := h4 h0
  exact ⟨g, 0, h5, h7, hF g h6, fun j hj => by simpa using h8 j hj⟩
theorem OwnA.keep {w w' : World} {B : Nat} {v : Value} {l : List Au.Arc} (h : OwnA w B v l) (e : ∀ k, v.ownBlock = some k → w'.heap[k]? = w.heap[k]?) : OwnA w' B v l := ownsRow_keep h e
theorem OwnA.lt {w : World} {B : Nat} {v : Value} {l : List Au.Arc} (h : OwnA w B v l) : ∀ k, v.ownBlock = some k → B ≤ k ∧ k < w.heap.size := World.ownsRow.lt h
theorem OwnA.nil0 (w : World) (B : Nat) : OwnA w B (.slice none 0 0) [] := World.ownsRow_nil w B _ _
theorem OwnA.kind {w : World} {B : Nat} {v : Value} {l : List Au.Arc} (h : OwnA w B v l) : ∀ g, v.ownBlock = some g → ∃ c fz, w.heap[g]? = some (.cells c 44 fz) := by
  intro g hv
  rcases h.2 with ⟨h1, _⟩ | ⟨g', cap, cur, h1, hg, hh, _⟩
  · rw [h1] at hv; cases hv
  · rw [h1] at hv
    obtain rfl : g' = g := by simpa [Value.ownBlock] using hv
    exact ⟨_, _, hh⟩
theorem OwnN.kind {w : World} {B : Nat} {v : Value} {l : List Nat} (h : OwnN w B v l) : ∀ g, v.ownBlock = some g → ∃ c fz, w.heap[g]? = some (.cells c 3 fz) := by
  intro g hv
  rcases h.2 with ⟨h1, _⟩ | ⟨g', cap, cur, h1, hg, hh, _⟩
  · rw [h1] at hv; cases hv
  · rw [h1] at hv
    obtain rfl : g' = g := by simpa [Value.ownBlock] using hv
    exact ⟨_, _, hh⟩
/-- The last arc goes on. -/
theorem OwnA.last {w : World} {B : Nat} {g cap : Nat} {r : List Au.Arc} {x : Au.Arc} {n : Nat} (h : OwnA w B (.slice (some ⟨g, 0, none⟩) n cap) (r ++ [x])) (hn : n = r.length + 1) (c : Int) : OwnA (w.setCell ⟨g, r.length * 3 + 1, none⟩ (.int .i64 c)) B (.slice (some ⟨g, 0, none⟩) n cap) (r ++ [⟨x.lo, c, x.to⟩]) ∧ w.grownBy (w.setCell ⟨g, r.length * 3 + 1, none⟩ (.int .i64 c)) (some g) := by
  have hl : (r ++ [x]).length = n := by simp [hn]
  have hl2 : (r ++ [(⟨x.lo, c, x.to⟩ : Au.Arc)]).length = n := by simp [hn]
  unfold OwnA at h ⊢
  rw [hl] at h
  rw [hl2]
  have hs := h.stored (r.length * 3 + 1) (.int .i64 c)
  have he : (arcsV (r ++ [x])).set (r.length * 3 + 1) (.int .i64 c) = arcsV (r ++ [(⟨x.lo, c, x.to⟩ : Au.Arc)]) := by
    rw [← arcsV_snoc, ← arcsV_snoc, List.set_append_right _ _ (by rw [arcsV_length]; omega), arcsV_length, show r.length * 3 + 1 - r.length * 3 = 1 by omega]
    rfl
  rw [he] at hs
  exact hs
theorem new_arc (w : World) (a b c : Int) : ∀ j u, [Value.int .i64 a, .int .i64 b, .int .i64 c][j]? = some u → (w.alloc (.cells #[.int .i64 a, .int .i64 b, .int .i64 c] 44)).cell? ((⟨w.heap.size, 0, none⟩ : Addr).add j) = some u := by
  intro j u hj
  match j, hj with
  | 0, hj => simp at hj; subst hj; simp [Addr.add]
  | 1, hj => simp at hj; subst hj; simp [Addr.add]
  | 2, hj => simp at hj; subst hj; simp [Addr.add]
theorem one_arc (a b c : Int) : ∀ u ∈ [Value.int .i64 a, .int .i64 b, .int .i64 c], u.oneCell' = true := by
  intro u hu
  simp only [List.mem_cons, List.mem_nil_iff, or_false] at hu
  rcases hu with rfl | rfl | rfl <;> rfl
/-- 'append(v, Arc)' of one arc, which lies in a new block. -/
theorem wpList_pushA {ops : Array Oper} {rest : List Oper} {o : Oper} {a : Act} {Q : Exit → Act → World → Prop} {w : World} (hgd : o.guard = none) (s x : Operand)
    (ho : o.op = .call { callee := .builtin .append, args := #[s, x], argTypes := #[22, 22] })
    (B : Nat) (hB : B ≤ w.heap.size) (v : Value) (l : List Au.Arc) (p q r : Int) (hs : a.eval s = v) (h : OwnA w B v l) (hx : a.eval x = .slice (some ⟨w.heap.size, 0, none⟩) 1 1)
    (hb : l.length + 1 ≤ 1099511627776)
    (hk : ∀ v' w', OwnA w' B v' (l ++ [⟨p, q, r⟩]) → Ap.Two w w' v v' → wpList Try.prog ops Q rest (a.put o.dst v') w') :
    wpList Try.prog ops Q (o :: rest) a (w.alloc (.cells #[.int .i64 p, .int .i64 q, .int .i64 r] 44)) := by
  obtain ⟨ii, hi, hz0, hz1, hz2⟩ := info_parts Try.infoA
  have hown : w.ownsRow B 44 3 v l.length (arcsV l) := h
  refine wpList_append_two _ hgd s x 22 ho B 44 ii _ 3 24 Try.underlying22 hi hz0 hz1 hz2 rfl (by decide) _ _ _ hs (hown.alloc _) ⟨w.heap.size, 0, none⟩ 1 1 [.int .i64 p, .int .i64 q, .int .i64 r] hx rfl (new_arc w p q r) (one_arc p q r) (by unfold maxLen; omega) (by omega) (by simp; omega) ?_
  intro v' w' h1 h2
  refine hk v' w' ?_ (Ap.Two.drop h2)
  unfold OwnA
  rw [arcsV_snoc l ⟨p, q, r⟩] at h1
  simpa using h1
theorem new_nat (w : World) (c : Nat) : ∀ j u, [Value.int .i64 c][j]? = some u → (w.alloc (.cells #[.int .i64 c] 3)).cell? ((⟨w.heap.size, 0, none⟩ : Addr).add j) = some u := by
  intro j u hj
  match j, hj with
  | 0, hj => simp at hj; subst hj; simp [Addr.add]
/-- 'append(v, n)' of one number, which lies in a new block. -/
theorem wpList_pushN2 {ops : Array Oper} {rest : List Oper} {o : Oper} {a : Act} {Q : Exit → Act → World → Prop} {w : World} (hgd : o.guard = none) (s x : Operand)
    (ho : o.op = .call { callee := .builtin .append, args := #[s, x], argTypes := #[23, 23] })
    (B : Nat) (hB : B ≤ w.heap.size) (v : Value) (l : List Nat) (c : Nat) (hs : a.eval s = v) (h : OwnN w B v l) (hx : a.eval x = .slice (some ⟨w.heap.size, 0, none⟩) 1 1)
    (hb : l.length + 1 ≤ 1099511627776)
    (hk : ∀ v' w', OwnN w' B v' (l ++ [c]) → Ap.Two w w' v v' → wpList Try.prog ops Q rest (a.put o.dst v') w') :
    wpList Try.prog ops Q (o :: rest) a (w.alloc (.cells #[.int .i64 c] 3)) := by
  obtain ⟨ii, hi, hz0, hz1, hz2⟩ := info_parts Try.infoN
  have hown : w.ownsRow B 3 1 v l.length (natsV l) := h
  refine wpList_append_two _ hgd s x 23 ho B 3 ii (.int .i64 0) 1 8 Try.underlying23 hi hz0 hz1 hz2 rfl (by decide) _ _ _ hs (hown.alloc _) ⟨w.heap.size, 0, none⟩ 1 1 [.int .i64 c] hx rfl (new_nat w c) ?_ (by unfold maxLen; omega) (by omega) (by simp; omega) ?_
  · intro u hu
    simp at hu
    subst hu
    rfl
  · intro v' w' h1 h2
    refine hk v' w' ?_ (Ap.Two.drop h2)
    unfold OwnN
    rw [natsV_snoc] at h1
    simpa using h1
/-- States as cells: is it final, its arcs' slice. -/
def stsV (l : List (Bool × Value)) : List Value := l.flatMap fun x => [.bool x.1, x.2]
theorem stsV_length (l : List (Bool × Value)) : (stsV l).length = l.length * 2 := by
  induction l with
  | nil => rfl
  | cons x t ih =>
    show (_ :: _ :: stsV t).length = _
    simp only [List.length_cons, ih]
    omega
theorem stsV_snoc (l : List (Bool × Value)) (x : Bool × Value) : stsV l ++ [.bool x.1, x.2] = stsV (l ++ [x]) := by simp [stsV]
theorem stsV_at (l : List (Bool × Value)) : ∀ i (h : i < l.length), (stsV l)[i * 2]? = some (.bool l[i].1) ∧ (stsV l)[i * 2 + 1]? = some l[i].2 := by
  induction l with
  | nil => intro i h; cases h
  | cons x t ih =>
    intro i h
    cases i with
    | zero => exact ⟨rfl, rfl⟩
    | succ i =>
      simp only [List.length_cons, Nat.add_lt_add_iff_right] at h
      have e : (i + 1) * 2 = i * 2 + 1 + 1 := by omega
      rw [e]
      exact ih i h
theorem Try.infoSt : (Try.prog.info? 64).map (fun i => (i.zero, i.size, i.bytes)) = some (some (.agg #[.bool false, .slice none 0 0]), 2, 32) := by kernel_rfl
/-- The slice v is the call's own, from block B on, and holds these states. -/
def OwnT (w : World) (B : Nat) (v : Value) (l : List (Bool × Value)) : Prop := w.ownsRow B 64 2 v l.length (stsV l)
theorem new_st (w : World) (b : Bool) (u0 : Value) : ∀ j u, [Value.bool b, u0][j]? = some u → (w.alloc (.cells #[.bool b, u0] 64)).cell? ((⟨w.heap.size, 0, none⟩ : Addr).add j) = some u := by
  intro j u hj
  match j, hj with
  | 0, hj => simp at hj; subst hj; simp [Addr.add]
  | 1, hj => simp at hj; subst hj; simp [Addr.add]
/-- 'append(v, State)' of one state, which lies in a new block. -/
theorem wpList_pushT {ops : Array Oper} {rest : List Oper} {o : Oper} {a : Act} {Q : Exit → Act → World → Prop} {w : World} (hgd : o.guard = none) (s x : Operand)
    (ho : o.op = .call { callee := .builtin .append, args := #[s, x], argTypes := #[32, 32] })
    (B : Nat) (hB : B ≤ w.heap.size) (v : Value) (l : List (Bool × Value)) (b : Bool) (ad : Option Addr) (m cap : Nat) (hs : a.eval s = v) (h : OwnT w B v l) (hx : a.eval x = .slice (some ⟨w.heap.size, 0, none⟩) 1 1)
    (hb : l.length + 1 ≤ 1099511627776)
    (hk : ∀ v' w', OwnT w' B v' (l ++ [(b, .slice ad m cap)]) → Ap.Two w w' v v' → wpList Try.prog ops Q rest (a.put o.dst v') w') :
    wpList Try.prog ops Q (o :: rest) a (w.alloc (.cells #[.bool b, .slice ad m cap] 64)) := by
  obtain ⟨ii, hi, hz0, hz1, hz2⟩ := info_parts Try.infoSt
  have hown : w.ownsRow B 64 2 v l.length (stsV l) := h
  refine wpList_append_two _ hgd s x 32 ho B 64 ii _ 2 32 Try.underlying32 hi hz0 hz1 hz2 rfl (by decide) _ _ _ hs (hown.alloc _) ⟨w.heap.size, 0, none⟩ 1 1 [.bool b, .slice ad m cap] hx rfl (new_st w b _) ?_ (by unfold maxLen; omega) (by omega) (by simp; omega) ?_
  · intro u hu
    simp only [List.mem_cons, List.mem_nil_iff, or_false] at hu
    rcases hu with rfl | rfl <;> rfl
  · intro v' w' h1 h2
    refine hk v' w' ?_ (Ap.Two.drop h2)
    unfold OwnT
    rw [stsV_snoc l (b, .slice ad m cap)] at h1
    simpa using h1
theorem OwnT.opened {w : World} {B : Nat} {v : Value} {l : List (Bool × Value)} (h : OwnT w B v l) : ∃ a cap, v = .slice a l.length cap ∧ l.length ≤ cap ∧ cap ≤ 9223372036854775807 ∧ (0 < l.length → ∃ g, a = some ⟨g, 0, none⟩ ∧ B ≤ g ∧ g < w.heap.size ∧
    ∀ j (_ : j < l.length), w.cell? ⟨g, j * 2, none⟩ = some (.bool l[j].1) ∧ w.cell? ⟨g, j * 2 + 1, none⟩ = some l[j].2) := by
  rcases h.2 with ⟨rfl, h0⟩ | ⟨g, cap, cur, rfl, hg, hh, hnc, hcp, hcs, htake⟩
  · exact ⟨none, 0, by rw [h0], by omega, by omega, fun h => by omega⟩
  · have hown : w.ownsRow B 64 2 (.slice (some ⟨g, 0, none⟩) l.length cap) l.length (stsV l) := h
    refine ⟨_, cap, rfl, hnc, by unfold maxLen at hcp; omega, fun _ => ⟨g, rfl, hg, (hown.lt g rfl).2, fun j hj => ?_⟩⟩
    obtain ⟨a1, a2⟩ := stsV_at l j hj
    exact ⟨(hown.cellAt _ (by omega)).trans a1, (hown.cellAt _ (by omega)).trans a2⟩
theorem OwnT.kind {w : World} {B : Nat} {v : Value} {l : List (Bool × Value)} (h : OwnT w B v l) : ∀ g, v.ownBlock = some g → ∃ c fz, w.heap[g]? = some (.cells c 64 fz) := by
  intro g hv
  rcases h.2 with ⟨h1, _⟩ | ⟨g', cap, cur, h1, hg, hh, _⟩
  · rw [h1] at hv; cases hv
  · rw [h1] at hv
    obtain rfl : g' = g := by simpa [Value.ownBlock] using hv
    exact ⟨_, _, hh⟩
end Go.Proofs.Ytpoeklgoepjikaa

/-
  Characters as bytes and back, plainly: what is written is read, what is read is written, and the order of both; no program is named here.
-/
namespace Go.Proofs.Ytpoeklgoepjikaa.Ut
open Go.Lib

/-- A number is a character. -/
def whole (c : Int) : Bool := decide ((0 ≤ c ∧ c < 55296) ∨ (57343 < c ∧ c < 1114112))
theorem whole_iff {c : Int} : whole c = true ↔ ((0 ≤ c ∧ c < 55296) ∨ (57343 < c ∧ c < 1114112)) := decide_eq_true_iff
def allW (l : List Int) : Bool := l.all whole
def enc (l : List Int) : List UInt8 := l.flatMap encodeRune
def decGo : Nat → List UInt8 → List Int
  | 0, _ => []
  | n + 1, l => if l = [] then [] else ((decodeL l).1 : Int) :: decGo n (l.drop (decodeL l).2)
def dec (l : List UInt8) : List Int := decGo l.length l
/-- No character begins the bytes. -/
def Bad (l : List UInt8) : Prop := (decodeL l).1 = 65533 ∧ (decodeL l).2 = 1
instance (l : List UInt8) : Decidable (Bad l) := by unfold Bad; infer_instance

theorem enc_nil : enc [] = [] := rfl
theorem enc_cons (c : Int) (l : List Int) : enc (c :: l) = encodeRune c ++ enc l := rfl
theorem enc_append (a b : List Int) : enc (a ++ b) = enc a ++ enc b := by simp [enc]
theorem enc_snoc (a : List Int) (c : Int) : enc (a ++ [c]) = enc a ++ encodeRune c := by rw [enc_append]; simp [enc]
theorem allW_append (a b : List Int) : allW (a ++ b) = (allW a && allW b) := by simp [allW]
theorem allW_cons (c : Int) (l : List Int) : allW (c :: l) = (whole c && allW l) := rfl
theorem allW_iff {l : List Int} : allW l = true ↔ ∀ c ∈ l, whole c = true := List.all_eq_true
theorem decGo_nil : ∀ n, decGo n [] = []
  | 0 => rfl
  | _ + 1 => by simp [decGo]
theorem decGo_fuel : ∀ (n m : Nat) (l : List UInt8), l.length ≤ n → l.length ≤ m → decGo n l = decGo m l
  | 0, m, l, hn, _ => by
    have : l = [] := List.eq_nil_of_length_eq_zero (by omega)
    subst this
    rw [decGo_nil, decGo_nil]
  | n + 1, 0, l, _, hm => by
    have : l = [] := List.eq_nil_of_length_eq_zero (by omega)
    subst this
    rw [decGo_nil, decGo_nil]
  | n + 1, m + 1, l, hn, hm => by
    unfold decGo
    by_cases hne : l = []
    · simp [hne]
    · have hw := decodeL_width l
      have hl : 0 < l.length := List.length_pos_iff.2 hne
      rw [if_neg hne, if_neg hne, decGo_fuel n m (l.drop (decodeL l).2) (by rw [List.length_drop]; omega) (by rw [List.length_drop]; omega)]
theorem dec_nil : dec [] = [] := rfl
theorem dec_step (l : List UInt8) (hne : l ≠ []) : dec l = ((decodeL l).1 : Int) :: dec (l.drop (decodeL l).2) := by
  have hl : 0 < l.length := List.length_pos_iff.2 hne
  have hw := decodeL_width l
  obtain ⟨n, hn⟩ : ∃ n, l.length = n + 1 := ⟨l.length - 1, by omega⟩
  unfold dec
  rw [hn]
  show (if l = [] then [] else _) = _
  rw [if_neg hne, decGo_fuel n (l.drop (decodeL l).2).length _ (by rw [List.length_drop]; omega) (Nat.le_refl _)]
theorem dec_length : ∀ (n : Nat) (l : List UInt8), (decGo n l).length ≤ n
  | 0, _ => by simp [decGo]
  | n + 1, l => by
    unfold decGo
    split
    · simp
    · rw [List.length_cons]
      have := dec_length n (l.drop (decodeL l).2)
      omega

/-- The bytes of a character, by its size. -/
theorem run_cases (c : Int) (h : whole c = true) :
    (0 ≤ c ∧ c ≤ 127 ∧ encodeRuneZ c = [c]) ∨ (128 ≤ c ∧ c ≤ 2047 ∧ encodeRuneZ c = [192 + c / 64, 128 + c % 64]) ∨
    (((2048 ≤ c ∧ c < 55296) ∨ (57343 < c ∧ c ≤ 65535)) ∧ encodeRuneZ c = [224 + c / 4096, 128 + c / 64 % 64, 128 + c % 64]) ∨
    (65536 ≤ c ∧ c ≤ 1114111 ∧ encodeRuneZ c = [240 + c / 262144, 128 + c / 4096 % 64, 128 + c / 64 % 64, 128 + c % 64]) := by
  rw [whole_iff] at h
  by_cases h1 : c ≤ 127
  · exact .inl ⟨by omega, h1, encodeRuneZ_one (by omega) h1⟩
  by_cases h2 : c ≤ 2047
  · exact .inr (.inl ⟨by omega, h2, encodeRuneZ_two (by omega) h2⟩)
  by_cases h3 : c ≤ 65535
  · exact .inr (.inr (.inl ⟨by omega, encodeRuneZ_three (by omega)⟩))
  · exact .inr (.inr (.inr ⟨by omega, by omega, encodeRuneZ_four (by omega) (by omega)⟩))
theorem byteZ (x : Int) (_h0 : 0 ≤ x) (h1 : x < 256) : (x.toNat.toUInt8).toNat = x.toNat := by
  simp
  omega
theorem byteI (x : Int) (h0 : 0 ≤ x) (h1 : x < 256) : ((x.toNat.toUInt8).toNat : Int) = x := by
  rw [byteZ x h0 h1]; omega
theorem rune_length (c : Int) : 1 ≤ (encodeRune c).length ∧ (encodeRune c).length ≤ 4 := by
  unfold encodeRune encodeRuneZ
  repeat' split
  all_goals simp
theorem rune_ne (c : Int) : encodeRune c ≠ [] := fun h => by have := (rune_length c).1; rw [h] at this; simp at this
theorem enc_length (l : List Int) : l.length ≤ (enc l).length ∧ (enc l).length ≤ 4 * l.length := by
  induction l with
  | nil => simp [enc]
  | cons c t ih =>
    have := rune_length c
    rw [enc_cons, List.length_append, List.length_cons]
    omega

/-- What is written of a character is read as it, whatever stands behind. -/
theorem decode_encode (c : Int) (h : whole c = true) (r : List UInt8) : decodeL (encodeRune c ++ r) = (c.toNat, (encodeRune c).length) ∧ ¬ Bad (encodeRune c ++ r) := by
  have key : decodeL (encodeRune c ++ r) = (c.toNat, (encodeRune c).length) := by
    rw [decodeL_N]
    unfold encodeRune
    rcases run_cases c h with ⟨h1, h2, e⟩ | ⟨h1, h2, e⟩ | ⟨h1, e⟩ | ⟨h1, h2, e⟩
    · rw [e]
      simp only [List.map_cons, List.map_nil, List.cons_append, List.nil_append, List.length_cons, List.length_nil, List.getD_cons_zero]
      rw [byteZ c (by omega) (by omega)]
      unfold decodeN
      rw [if_pos (by omega)]
    · rw [e]
      simp only [List.map_cons, List.map_nil, List.cons_append, List.nil_append, List.length_cons, List.length_nil, List.getD_cons_zero, List.getD_cons_succ]
      rw [byteZ (192 + c / 64) (by omega) (by omega), byteZ (128 + c % 64) (by omega) (by omega)]
      unfold decodeN
      rw [if_neg (by omega), if_pos (by omega), if_pos (by omega)]
      refine Prod.ext ?_ rfl
      show _ = c.toNat
      omega
    · rw [e]
      simp only [List.map_cons, List.map_nil, List.cons_append, List.nil_append, List.length_cons, List.length_nil, List.getD_cons_zero, List.getD_cons_succ]
      rw [byteZ (224 + c / 4096) (by omega) (by omega), byteZ (128 + c / 64 % 64) (by omega) (by omega), byteZ (128 + c % 64) (by omega) (by omega)]
      unfold decodeN
      rw [if_neg (by omega), if_neg (by omega), if_pos (by omega), if_pos (by omega)]
      refine Prod.ext ?_ rfl
      show _ = c.toNat
      omega
    · rw [e]
      simp only [List.map_cons, List.map_nil, List.cons_append, List.nil_append, List.length_cons, List.length_nil, List.getD_cons_zero, List.getD_cons_succ]
      rw [byteZ (240 + c / 262144) (by omega) (by omega), byteZ (128 + c / 4096 % 64) (by omega) (by omega), byteZ (128 + c / 64 % 64) (by omega) (by omega), byteZ (128 + c % 64) (by omega) (by omega)]
      unfold decodeN
      rw [if_neg (by omega), if_neg (by omega), if_neg (by omega), if_pos (by omega), if_pos (by omega)]
      refine Prod.ext ?_ rfl
      show _ = c.toNat
      omega
  refine ⟨key, ?_⟩
  unfold Bad
  rw [key]
  rintro ⟨h1, h2⟩
  dsimp only at h1 h2
  have hc : c = 65533 := by rw [whole_iff] at h; omega
  subst hc
  have : (encodeRune 65533).length = 3 := by decide +kernel
  omega

/-- What is read is a character. -/
theorem decode_whole (l : List UInt8) : whole ((decodeL l).1 : Int) = true := by
  rw [whole_iff]
  rw [decodeL_N]
  have k0 := (l.getD 0 0).toNat_lt
  have k1 := (l.getD 1 0).toNat_lt
  have k2 := (l.getD 2 0).toNat_lt
  have k3 := (l.getD 3 0).toNat_lt
  rcases decodeN_shape l.length (l.getD 0 0).toNat (l.getD 1 0).toNat (l.getD 2 0).toNat (l.getD 3 0).toNat with ⟨c, e⟩ | ⟨c1, c2, c3, cv, e⟩ | ⟨c1, c2, c3, c4, cv, cs, e⟩ | ⟨c1, c2, c3, c4, c5, cv, cw, e⟩ | e
  all_goals (rw [e]; dsimp only; omega)

theorem validD_good (l : List UInt8) (hne : l ≠ []) (hb : ¬ Bad l) : validD l = validD (l.drop (decodeL l).2) := by rw [validD_step l hne]; exact if_neg hb
theorem validD_bad (l : List UInt8) (hne : l ≠ []) (hb : Bad l) : validD l = false := by rw [validD_step l hne]; exact if_pos hb

/-- Characters that were written are read back. -/
theorem dec_enc (l : List Int) (h : allW l = true) : validD (enc l) = true ∧ dec (enc l) = l := by
  induction l with
  | nil => exact ⟨rfl, rfl⟩
  | cons c t ih =>
    rw [allW_cons, Bool.and_eq_true] at h
    obtain ⟨h1, h2⟩ := decode_encode c h.1 (enc t)
    have hne : encodeRune c ++ enc t ≠ [] := by simp [rune_ne]
    obtain ⟨i1, i2⟩ := ih h.2
    rw [enc_cons, validD_good _ hne h2, dec_step _ hne, h1]
    dsimp only
    rw [List.drop_left, i1, i2]
    refine ⟨rfl, ?_⟩
    have := whole_iff.1 h.1
    rw [show ((c.toNat : Nat) : Int) = c from by omega]
/-- Bytes that are read are just what they are written in. -/
theorem enc_dec : ∀ (n : Nat) (l : List UInt8), l.length ≤ n → validD l = true → enc (dec l) = l ∧ allW (dec l) = true := by
  intro n
  induction n with
  | zero =>
    intro l hl _
    have : l = [] := List.eq_nil_of_length_eq_zero (by omega)
    subst this
    exact ⟨rfl, rfl⟩
  | succ n ih =>
    intro l hl hv
    by_cases hne : l = []
    · subst hne; exact ⟨rfl, rfl⟩
    · by_cases hb : Bad l
      · rw [validD_bad l hne hb] at hv; cases hv
      · have hw := decodeL_width l
        have hl0 : 0 < l.length := List.length_pos_iff.2 hne
        rw [validD_good l hne hb] at hv
        obtain ⟨i1, i2⟩ := ih (l.drop (decodeL l).2) (by rw [List.length_drop]; omega) hv
        rw [dec_step l hne, enc_cons, allW_cons, i1, i2, encode_decode l hne hb, List.take_append_drop, decode_whole l]
        exact ⟨rfl, rfl⟩

/-- The number that bytes of a character tell. -/
def guess (l : List UInt8) : Int :=
  match l with
  | [a] => a.toNat
  | [a, b] => 64 * ((a.toNat : Int) - 192) + b.toNat - 128
  | [a, b, c] => 64 * (64 * ((a.toNat : Int) - 224) + b.toNat - 128) + c.toNat - 128
  | [a, b, c, d] => 64 * (64 * (64 * ((a.toNat : Int) - 240) + b.toNat - 128) + c.toNat - 128) + d.toNat - 128
  | _ => 0
theorem guess_enc (c : Int) (h : whole c = true) : guess (encodeRune c) = c := by
  unfold encodeRune
  rcases run_cases c h with ⟨h1, h2, e⟩ | ⟨h1, h2, e⟩ | ⟨h1, e⟩ | ⟨h1, h2, e⟩
  · rw [e]
    simp only [List.map_cons, List.map_nil, guess]
    rw [byteI c (by omega) (by omega)]
  · rw [e]
    simp only [List.map_cons, List.map_nil, guess]
    rw [byteI (192 + c / 64) (by omega) (by omega), byteI (128 + c % 64) (by omega) (by omega)]
    omega
  · rw [e]
    simp only [List.map_cons, List.map_nil, guess]
    rw [byteI (224 + c / 4096) (by omega) (by omega), byteI (128 + c / 64 % 64) (by omega) (by omega), byteI (128 + c % 64) (by omega) (by omega)]
    omega
  · rw [e]
    simp only [List.map_cons, List.map_nil, guess]
    rw [byteI (240 + c / 262144) (by omega) (by omega), byteI (128 + c / 4096 % 64) (by omega) (by omega), byteI (128 + c / 64 % 64) (by omega) (by omega), byteI (128 + c % 64) (by omega) (by omega)]
    omega
theorem guess_bound (l : List UInt8) : -100000000 ≤ guess l ∧ guess l ≤ 100000000 := by
  unfold guess
  split
  · rename_i a; have := a.toNat_lt; omega
  · rename_i a b; have := a.toNat_lt; have := b.toNat_lt; omega
  · rename_i a b c; have := a.toNat_lt; have := b.toNat_lt; have := c.toNat_lt; omega
  · rename_i a b c d; have := a.toNat_lt; have := b.toNat_lt; have := c.toNat_lt; have := d.toNat_lt; omega
  · omega
/-- A trial with as many bytes: are they a character's? -/
def hit (l : List UInt8) (n : Nat) : Bool := whole (guess (l.take n)) && decide (encodeRune (guess (l.take n)) = l.take n)
theorem hit_iff (l : List UInt8) (n : Nat) (hn : n ≤ l.length) : hit l n = true ↔ l ≠ [] ∧ ¬ Bad l ∧ n = (decodeL l).2 := by
  unfold hit
  rw [Bool.and_eq_true, decide_eq_true_iff]
  constructor
  · rintro ⟨h1, h2⟩
    have e : l = encodeRune (guess (l.take n)) ++ l.drop n := by rw [h2, List.take_append_drop]
    obtain ⟨d1, d2⟩ := decode_encode _ h1 (l.drop n)
    rw [← e] at d1 d2
    refine ⟨fun h => ?_, d2, ?_⟩
    · subst h
      rw [List.take_nil] at h2
      exact absurd h2 (rune_ne _)
    · rw [d1]
      dsimp only
      rw [h2, List.length_take]
      omega
  · rintro ⟨hne, hb, rfl⟩
    have h1 := encode_decode l hne hb
    have h2 := decode_whole l
    have h3 := guess_enc _ h2
    rw [h1] at h3
    rw [h3]
    exact ⟨h2, h1⟩
theorem hit_guess (l : List UInt8) (hne : l ≠ []) (hb : ¬ Bad l) : guess (l.take (decodeL l).2) = ((decodeL l).1 : Int) := by
  rw [← encode_decode l hne hb]
  exact guess_enc _ (decode_whole l)
theorem width_four (l : List UInt8) : (decodeL l).2 ≤ 4 := by
  rw [decodeL_N]
  rcases decodeN_shape l.length (l.getD 0 0).toNat (l.getD 1 0).toNat (l.getD 2 0).toNat (l.getD 3 0).toNat with ⟨c, e⟩ | ⟨c1, c2, c3, cv, e⟩ | ⟨c1, c2, c3, c4, cv, cs, e⟩ | ⟨c1, c2, c3, c4, c5, cv, cw, e⟩ | e
  all_goals (rw [e]; dsimp only; omega)
end Go.Proofs.Ytpoeklgoepjikaa.Ut

/-
  Ranges of characters as rows of ranges of bytes, plainly: how a range is cut, what a row holds, how many rows there are; no program is named here.
-/
namespace Go.Proofs.Ytpoeklgoepjikaa.Sp
open Go.Lib

/-- The cuts: first and last character, bytes behind the first. -/
def cuts : List (Int × Int × Nat) := [(0, 127, 0), (128, 2047, 1), (2048, 55295, 2), (57344, 65535, 2), (65536, 1114111, 3)]
def pw (t : Nat) : Int := 64 ^ t
theorem pw0 : pw 0 = 1 := rfl
theorem pw1 : pw 1 = 64 := rfl
theorem pw2 : pw 2 = 4096 := rfl
theorem pw3 : pw 3 = 262144 := rfl
/-- How many bytes at the end turn whole: so many at most are still asked for. -/
def turns (c last : Int) : Nat → Nat → Nat
  | 0, t => t
  | n + 1, t => if c % pw (t + 1) = 0 ∧ c + (pw (t + 1) - 1) ≤ last then turns c last n (t + 1) else t
def endOf (c last : Int) (tails : Nat) : Int :=
  let t := turns c last tails 0
  let l := if t < tails then min last (c - c % pw (t + 1) + (pw (t + 1) - 1)) else last
  (l + 1) - (l + 1) % pw t - 1
/-- What a row that begins with a and ends with b is. -/
structure Good (f l : Int) (tails t : Nat) (a b : Int) : Prop where
  tl : t ≤ tails
  lo : f ≤ a
  hi : b ≤ l
  le : a ≤ b
  a0 : a % pw t = 0
  b0 : (b + 1) % pw t = 0
  pre : t < tails → a / pw (t + 1) = b / pw (t + 1)

theorem turns_le (c last : Int) : ∀ n t, t ≤ turns c last n t ∧ turns c last n t ≤ t + n
  | 0, t => ⟨Nat.le_refl _, Nat.le_refl _⟩
  | n + 1, t => by
    unfold turns
    split
    · have := turns_le c last n (t + 1); omega
    · omega
theorem turns_at (c last : Int) : ∀ n t, c % pw t = 0 ∧ c + (pw t - 1) ≤ last → c % pw (turns c last n t) = 0 ∧ c + (pw (turns c last n t) - 1) ≤ last
  | 0, t, h => h
  | n + 1, t, h => by
    unfold turns
    split
    · rename_i h2; exact turns_at c last n (t + 1) h2
    · exact h
theorem turns_no (c last : Int) : ∀ n t, turns c last n t < t + n → ¬ (c % pw (turns c last n t + 1) = 0 ∧ c + (pw (turns c last n t + 1) - 1) ≤ last)
  | 0, t, h => by simp [turns] at h
  | n + 1, t, h => by
    unfold turns at h ⊢
    split at h
    · rename_i h2
      rw [if_pos h2]
      exact turns_no c last n (t + 1) (by omega)
    · rename_i h2
      rw [if_neg h2]
      exact h2
/-- What the end of a row is. -/
theorem endOf_good (c last f l : Int) (tails : Nat) (ht : tails ≤ 3) (_h0 : 0 ≤ c) (hf : f ≤ c) (hc : c ≤ last) (hl : last ≤ l) :
    Good f l tails (turns c last tails 0) c (endOf c last tails) ∧ endOf c last tails ≤ last := by
  have h1 := turns_le c last tails 0
  have h2 := turns_at c last tails 0 ⟨by rw [pw0]; omega, by rw [pw0]; omega⟩
  unfold endOf
  generalize turns c last tails 0 = t at *
  have ht3 : t = 0 ∨ t = 1 ∨ t = 2 ∨ t = 3 := by omega
  by_cases hlt : t < tails
  · rcases ht3 with rfl | rfl | rfl | rfl
    · simp only [pw0, Nat.zero_add, pw1, hlt, if_true] at *
      refine ⟨⟨by omega, by omega, by omega, by omega, by rw [pw0]; omega, by rw [pw0]; omega, fun _ => by rw [Nat.zero_add, pw1]; omega⟩, by omega⟩
    · simp only [Nat.reduceAdd, pw1, pw2, hlt, if_true] at *
      refine ⟨⟨by omega, by omega, by omega, by omega, by rw [pw1]; omega, by rw [pw1]; omega, fun _ => by rw [pw2]; omega⟩, by omega⟩
    · simp only [Nat.reduceAdd, pw2, pw3, hlt, if_true] at *
      refine ⟨⟨by omega, by omega, by omega, by omega, by rw [pw2]; omega, by rw [pw2]; omega, fun _ => by rw [pw3]; omega⟩, by omega⟩
    · omega
  · obtain rfl : t = tails := by omega
    rcases ht3 with rfl | rfl | rfl | rfl
    all_goals
      simp only [pw0, pw1, pw2, pw3, Nat.lt_irrefl, if_false] at *
      refine ⟨⟨by omega, by omega, by omega, by omega, by simp only [pw0, pw1, pw2, pw3]; omega, by simp only [pw0, pw1, pw2, pw3]; omega, fun h => absurd h (Nat.lt_irrefl _)⟩, by omega⟩
/-- The rows from a character on, each by its first and its last one. -/
def seg (last : Int) (tails : Nat) : Nat → Int → List (Int × Int)
  | 0, _ => []
  | n + 1, c => if c ≤ last then (c, endOf c last tails) :: seg last tails n (endOf c last tails + 1) else []
def segs (c last : Int) (tails : Nat) : List (Int × Int) := seg last tails (last + 1 - c).toNat c
theorem seg_fuel (last : Int) (tails : Nat) (ht : tails ≤ 3) : ∀ n m c, 0 ≤ c → (last + 1 - c).toNat ≤ n → (last + 1 - c).toNat ≤ m → seg last tails n c = seg last tails m c
  | 0, 0, c, _, _, _ => rfl
  | 0, m + 1, c, _, h, _ => by unfold seg; rw [if_neg (by omega)]
  | n + 1, 0, c, _, _, h => by unfold seg; rw [if_neg (by omega)]
  | n + 1, m + 1, c, h0, h1, h2 => by
    unfold seg
    by_cases hc : c ≤ last
    · rw [if_pos hc, if_pos hc]
      obtain ⟨hg, he⟩ := endOf_good c last c last tails ht h0 (Int.le_refl _) hc (Int.le_refl _)
      have := hg.le
      rw [seg_fuel last tails ht n m (endOf c last tails + 1) (by omega) (by omega) (by omega)]
    · rw [if_neg hc, if_neg hc]
theorem segs_step (c last : Int) (tails : Nat) (ht : tails ≤ 3) (h0 : 0 ≤ c) : segs c last tails = if c ≤ last then (c, endOf c last tails) :: segs (endOf c last tails + 1) last tails else [] := by
  by_cases hc : c ≤ last
  · rw [if_pos hc]
    obtain ⟨hg, he⟩ := endOf_good c last c last tails ht h0 (Int.le_refl _) hc (Int.le_refl _)
    have := hg.le
    unfold segs
    obtain ⟨n, hn⟩ : ∃ n, (last + 1 - c).toNat = n + 1 := ⟨(last + 1 - c).toNat - 1, by omega⟩
    rw [hn]
    have e : seg last tails (n + 1) c = if c ≤ last then (c, endOf c last tails) :: seg last tails n (endOf c last tails + 1) else [] := rfl
    rw [e, if_pos hc, seg_fuel last tails ht n _ (endOf c last tails + 1) (by omega) (by omega) (Nat.le_refl _)]
  · rw [if_neg hc]
    unfold segs
    rw [show (last + 1 - c).toNat = 0 by omega]
    rfl
/-- All rows of a range. -/
def pairs (lo hi : Int) : List (Int × Int) := cuts.flatMap fun k => segs (max lo k.1) (min hi k.2.1) k.2.2
/-- A row: a range for each byte. -/
def rowOf (p : Int × Int) : List (Int × Int) := (encodeRuneZ p.1).zip (encodeRuneZ p.2)
def rows (lo hi : Int) : List (List (Int × Int)) := (pairs lo hi).map rowOf
/-- What holds of every row of a range of one cut, and each number of it in just one of them. -/
theorem segs_all (f l : Int) (tails : Nat) (ht : tails ≤ 3) (hf : 0 ≤ f) (last : Int) (hl : last ≤ l) : ∀ n c, f ≤ c → (last + 1 - c).toNat = n → ∀ p ∈ segs c last tails, c ≤ p.1 ∧ p.2 ≤ last ∧ ∃ t, Good f l tails t p.1 p.2 := by
  intro n
  induction n using Nat.strongRecOn with
  | _ n ih =>
    intro c hc hn p hp
    rw [segs_step c last tails ht (by omega)] at hp
    split at hp
    · rename_i h
      obtain ⟨hg, he⟩ := endOf_good c last f l tails ht (by omega) hc h hl
      have := hg.le
      rcases List.mem_cons.1 hp with rfl | hp
      · exact ⟨Int.le_refl _, he, _, hg⟩
      · obtain ⟨h1, h2⟩ := ih _ (by omega) (endOf c last tails + 1) (by omega) rfl p hp
        exact ⟨by omega, h2⟩
    · cases hp
theorem segs_sum (tails : Nat) (ht : tails ≤ 3) (last : Int) : ∀ n c, 0 ≤ c → (last + 1 - c).toNat = n → ((segs c last tails).map fun p => p.2 - p.1 + 1).sum = if c ≤ last then last - c + 1 else 0 := by
  intro n
  induction n using Nat.strongRecOn with
  | _ n ih =>
    intro c hc hn
    rw [segs_step c last tails ht hc]
    by_cases h : c ≤ last
    · rw [if_pos h, if_pos h]
      obtain ⟨hg, he⟩ := endOf_good c last c last tails ht hc (Int.le_refl _) h (Int.le_refl _)
      have := hg.le
      rw [List.map_cons, List.sum_cons, ih _ (by omega) (endOf c last tails + 1) (by omega) rfl]
      split <;> omega
    · rw [if_neg h, if_neg h]
      rfl
theorem segs_hold (tails : Nat) (ht : tails ≤ 3) (last x : Int) : ∀ n c, 0 ≤ c → (last + 1 - c).toNat = n → ((segs c last tails).filter fun p => decide (p.1 ≤ x ∧ x ≤ p.2)).length = if c ≤ x ∧ x ≤ last then 1 else 0 := by
  intro n
  induction n using Nat.strongRecOn with
  | _ n ih =>
    intro c hc hn
    rw [segs_step c last tails ht hc]
    by_cases h : c ≤ last
    · rw [if_pos h]
      obtain ⟨hg, he⟩ := endOf_good c last c last tails ht hc (Int.le_refl _) h (Int.le_refl _)
      have := hg.le
      have ih := ih _ (by omega) (endOf c last tails + 1) (by omega) rfl
      rw [List.filter_cons]
      by_cases hx : c ≤ x ∧ x ≤ endOf c last tails
      · rw [if_pos (by simpa using hx), List.length_cons, ih, if_neg (by omega), if_pos (by omega)]
      · rw [if_neg (by simpa using hx), ih]
        split
        · rw [if_pos (by omega)]
        · rw [if_neg (by omega)]
    · rw [if_neg h, if_neg (by omega)]
      rfl
end Go.Proofs.Ytpoeklgoepjikaa.Sp

/-
  What rows hold, plainly: how many texts, which characters; how many rows there are; no program is named here.
-/
namespace Go.Proofs.Ytpoeklgoepjikaa.Sp
open Go.Lib

/-- How many texts a row holds. -/
def cnt (r : List (Int × Int)) : Int := r.foldl (fun n x => n * (x.2 - x.1 + 1)) 1
/-- Does a row hold these bytes. -/
def fits : List (Int × Int) → List UInt8 → Bool
  | [], [] => true
  | r :: rs, c :: cs => decide (r.1 ≤ (c.toNat : Int) ∧ (c.toNat : Int) ≤ r.2) && fits rs cs
  | _, _ => false
def fitsZ : List (Int × Int) → List Int → Bool
  | [], [] => true
  | r :: rs, c :: cs => decide (r.1 ≤ c ∧ c ≤ r.2) && fitsZ rs cs
  | _, _ => false
theorem fits_of : ∀ (r : List (Int × Int)) (l : List Int), (∀ x ∈ l, 0 ≤ x ∧ x < 256) → fits r (l.map fun x => x.toNat.toUInt8) = fitsZ r l
  | [], [], _ => rfl
  | [], _ :: _, _ => rfl
  | _ :: _, [], _ => rfl
  | r :: rs, c :: cs, h => by
    have hc := h c (List.mem_cons_self ..)
    show (decide _ && fits rs _) = (decide _ && fitsZ rs cs)
    rw [fits_of rs cs fun x hx => h x (List.mem_cons_of_mem _ hx), Ut.byteI c hc.1 hc.2]
theorem fits_rune (r : List (Int × Int)) (c : Int) : fits r (encodeRune c) = fitsZ r (encodeRuneZ c) := fits_of r _ (encodeRuneZ_byte c)

/-- The digits of a number. -/
theorem digits (x : Int) (_h0 : 0 ≤ x) (_h1 : x ≤ 1114111) : ∃ x3 x2 x1 x0 : Int, x = x3 * 262144 + x2 * 4096 + x1 * 64 + x0 ∧ 0 ≤ x0 ∧ x0 < 64 ∧ 0 ≤ x1 ∧ x1 < 64 ∧ 0 ≤ x2 ∧ x2 < 64 ∧ 0 ≤ x3 ∧ x3 ≤ 4 ∧
    x / 262144 = x3 ∧ x / 4096 % 64 = x2 ∧ x / 64 % 64 = x1 ∧ x % 64 = x0 ∧ x / 4096 = x3 * 64 + x2 ∧ x / 64 = x3 * 4096 + x2 * 64 + x1 := by
  refine ⟨x / 262144, x / 4096 % 64, x / 64 % 64, x % 64, ?_⟩
  omega
/-- A row of good ends lies within a cut. -/
inductive InCut : Int → Int → Nat → Prop
  | c0 : InCut 0 127 0
  | c1 : InCut 128 2047 1
  | c2 : InCut 2048 55295 2
  | c3 : InCut 57344 65535 2
  | c4 : InCut 65536 1114111 3
theorem inCut_of {k : Int × Int × Nat} (h : k ∈ cuts) : InCut k.1 k.2.1 k.2.2 := by
  simp only [cuts, List.mem_cons, List.not_mem_nil, or_false] at h
  rcases h with rfl | rfl | rfl | rfl | rfl
  · exact .c0
  · exact .c1
  · exact .c2
  · exact .c3
  · exact .c4
/-- What is asked of a row whose ends are good: its ranges, one by one. -/
structure Row (tails : Nat) (a b : Int) (r : List (Int × Int)) : Prop where
  cnt : cnt r = b - a + 1
  len : r.length = tails + 1
  rng : ∀ x ∈ r, 0 ≤ x.1 ∧ x.1 ≤ x.2 ∧ x.2 ≤ 255
  fit : ∀ c, Ut.whole c = true → fitsZ r (encodeRuneZ c) = decide (a ≤ c ∧ c ≤ b)
theorem row0 (a b : Int) (h0 : 0 ≤ a) (hb : b ≤ 127) (hab : a ≤ b) : Row 0 a b [(a, b)] := by
  refine ⟨?_, rfl, ?_, ?_⟩
  · show 1 * (b - a + 1) = _
    omega
  · intro x hx
    obtain rfl := List.mem_singleton.1 hx
    omega
  · intro c hc
    rcases Ut.run_cases c hc with ⟨h1, h2, e⟩ | ⟨h1, h2, e⟩ | ⟨h1, e⟩ | ⟨h1, h2, e⟩ <;> rw [e]
    · simp [fitsZ]
    · simp [fitsZ]; omega
    · simp [fitsZ]; omega
    · simp [fitsZ]; omega
theorem row1 (a b : Int) (h0 : 128 ≤ a) (hb : b ≤ 2047) (hab : a ≤ b) (h : (a / 64 = b / 64) ∨ (a % 64 = 0 ∧ b % 64 = 63)) : Row 1 a b [(192 + a / 64, 192 + b / 64), (128 + a % 64, 128 + b % 64)] := by
  refine ⟨?_, rfl, ?_, ?_⟩
  · show 1 * (192 + b / 64 - (192 + a / 64) + 1) * (128 + b % 64 - (128 + a % 64) + 1) = _
    rcases h with h | ⟨h1, h2⟩
    · rw [h, show 1 * (192 + b / 64 - (192 + b / 64) + 1) = 1 by omega]
      omega
    · rw [h1, h2]
      omega
  · intro x hx
    simp only [List.mem_cons, List.not_mem_nil, or_false] at hx
    rcases hx with rfl | rfl
    · dsimp only; omega
    · dsimp only; omega
  · intro c hc
    rcases Ut.run_cases c hc with ⟨h1, h2, e⟩ | ⟨h1, h2, e⟩ | ⟨h1, e⟩ | ⟨h1, h2, e⟩ <;> rw [e]
    · simp [fitsZ]; omega
    · simp only [fitsZ, Bool.and_true, ← Bool.decide_and]
      refine decide_eq_decide.2 ?_
      constructor
      · rcases h with h | h <;> omega
      · rcases h with h | h <;> omega
    · simp [fitsZ]; omega
    · simp [fitsZ]; omega
theorem row2 (a b : Int) (h0 : (2048 ≤ a ∧ b ≤ 55295) ∨ (57344 ≤ a ∧ b ≤ 65535)) (hab : a ≤ b)
    (h : (a / 64 = b / 64) ∨ (a / 4096 = b / 4096 ∧ a % 64 = 0 ∧ b % 64 = 63) ∨ (a % 64 = 0 ∧ a / 64 % 64 = 0 ∧ b % 64 = 63 ∧ b / 64 % 64 = 63)) :
    Row 2 a b [(224 + a / 4096, 224 + b / 4096), (128 + a / 64 % 64, 128 + b / 64 % 64), (128 + a % 64, 128 + b % 64)] := by
  obtain ⟨a3, a2, a1, a0, ea, r0, r1, r2, r3, r4, r5, r6, r7, d3, d2, d1, d0, e2, e1⟩ := digits a (by omega) (by omega)
  obtain ⟨b3, b2, b1, b0, eb, s0, s1, s2, s3, s4, s5, s6, s7, f3, f2, f1, f0, g2, g1⟩ := digits b (by omega) (by omega)
  rw [d1, d0, f1, f0, e1, e2, g1, g2] at h
  refine ⟨?_, rfl, ?_, ?_⟩
  · show 1 * (224 + b / 4096 - (224 + a / 4096) + 1) * (128 + b / 64 % 64 - (128 + a / 64 % 64) + 1) * (128 + b % 64 - (128 + a % 64) + 1) = _
    rw [e2, g2, d1, f1, d0, f0]
    clear d3 d2 d1 d0 f3 f2 f1 f0 e2 e1 g2 g1
    rcases h with h | ⟨h1, h2, h3⟩ | ⟨h1, h2, h3, h4⟩
    · obtain rfl : b3 = a3 := by omega
      obtain rfl : b2 = a2 := by omega
      obtain rfl : b1 = a1 := by omega
      rw [show 1 * (224 + (b3 * 64 + b2) - (224 + (b3 * 64 + b2)) + 1) = 1 by omega, show 1 * (128 + b1 - (128 + b1) + 1) = 1 by omega]
      omega
    · obtain rfl : b3 = a3 := by omega
      obtain rfl : b2 = a2 := by omega
      rw [show 1 * (224 + (b3 * 64 + b2) - (224 + (b3 * 64 + b2)) + 1) = 1 by omega, h2, h3]
      omega
    · rw [h1, h2, h3, h4, show (128 + (63 : Int) - (128 + 0) + 1) = 64 by omega]
      omega
  · intro x hx
    simp only [List.mem_cons, List.not_mem_nil, or_false] at hx
    rcases hx with rfl | rfl | rfl
    · dsimp only; omega
    · dsimp only; omega
    · dsimp only; omega
  · intro c hc
    rcases Ut.run_cases c hc with ⟨h1, h2, e⟩ | ⟨h1, h2, e⟩ | ⟨h1, e⟩ | ⟨h1, h2, e⟩ <;> rw [e]
    · simp [fitsZ]; omega
    · simp [fitsZ]; omega
    · simp only [fitsZ, Bool.and_true, ← Bool.decide_and]
      refine decide_eq_decide.2 ?_
      obtain ⟨c3, c2, c1, c0, ec, t0, t1, t2, t3, t4, t5, t6, t7, i3, i2, i1, i0, j2, j1⟩ := digits c (by omega) (by omega)
      rw [e2, g2, d1, f1, d0, f0, j2, i1, i0]
      clear d3 d2 d1 d0 f3 f2 f1 f0 e2 e1 g2 g1 i3 i2 i1 i0 j2 j1
      constructor
      · rcases h with h | h | h <;> omega
      · rcases h with h | h | h <;> omega
    · simp [fitsZ]; omega
theorem row3 (a b : Int) (h0 : 65536 ≤ a) (hb : b ≤ 1114111) (hab : a ≤ b)
    (h : (a / 64 = b / 64) ∨ (a / 4096 = b / 4096 ∧ a % 64 = 0 ∧ b % 64 = 63) ∨ (a / 262144 = b / 262144 ∧ a % 64 = 0 ∧ a / 64 % 64 = 0 ∧ b % 64 = 63 ∧ b / 64 % 64 = 63) ∨
      (a % 64 = 0 ∧ a / 64 % 64 = 0 ∧ a / 4096 % 64 = 0 ∧ b % 64 = 63 ∧ b / 64 % 64 = 63 ∧ b / 4096 % 64 = 63)) :
    Row 3 a b [(240 + a / 262144, 240 + b / 262144), (128 + a / 4096 % 64, 128 + b / 4096 % 64), (128 + a / 64 % 64, 128 + b / 64 % 64), (128 + a % 64, 128 + b % 64)] := by
  obtain ⟨a3, a2, a1, a0, ea, r0, r1, r2, r3, r4, r5, r6, r7, d3, d2, d1, d0, e2, e1⟩ := digits a (by omega) (by omega)
  obtain ⟨b3, b2, b1, b0, eb, s0, s1, s2, s3, s4, s5, s6, s7, f3, f2, f1, f0, g2, g1⟩ := digits b (by omega) (by omega)
  rw [d1, d0, f1, f0, e1, g1, d3, f3, d2, f2, e2, g2] at h
  refine ⟨?_, rfl, ?_, ?_⟩
  · show 1 * (240 + b / 262144 - (240 + a / 262144) + 1) * (128 + b / 4096 % 64 - (128 + a / 4096 % 64) + 1) * (128 + b / 64 % 64 - (128 + a / 64 % 64) + 1) * (128 + b % 64 - (128 + a % 64) + 1) = _
    rw [d3, f3, d2, f2, d1, f1, d0, f0]
    clear d3 d2 d1 d0 f3 f2 f1 f0 e2 e1 g2 g1
    rcases h with h | ⟨h1, h2, h3⟩ | ⟨h1, h2, h3, h4, h5⟩ | ⟨h1, h2, h3, h4, h5, h6⟩
    · obtain rfl : b3 = a3 := by omega
      obtain rfl : b2 = a2 := by omega
      obtain rfl : b1 = a1 := by omega
      rw [show 1 * (240 + b3 - (240 + b3) + 1) = 1 by omega, show 1 * (128 + b2 - (128 + b2) + 1) = 1 by omega, show 1 * (128 + b1 - (128 + b1) + 1) = 1 by omega]
      omega
    · obtain rfl : b3 = a3 := by omega
      obtain rfl : b2 = a2 := by omega
      rw [show 1 * (240 + b3 - (240 + b3) + 1) = 1 by omega, show 1 * (128 + b2 - (128 + b2) + 1) = 1 by omega, h2, h3]
      omega
    · obtain rfl : b3 = a3 := by omega
      rw [show 1 * (240 + b3 - (240 + b3) + 1) = 1 by omega, h2, h3, h4, h5, show (128 + (63 : Int) - (128 + 0) + 1) = 64 by omega]
      omega
    · rw [h1, h2, h3, h4, h5, h6, show (128 + (63 : Int) - (128 + 0) + 1) = 64 by omega]
      omega
  · intro x hx
    simp only [List.mem_cons, List.not_mem_nil, or_false] at hx
    rcases hx with rfl | rfl | rfl | rfl
    · dsimp only; omega
    · dsimp only; omega
    · dsimp only; omega
    · dsimp only; omega
  · intro c hc
    rcases Ut.run_cases c hc with ⟨h1, h2, e⟩ | ⟨h1, h2, e⟩ | ⟨h1, e⟩ | ⟨h1, h2, e⟩ <;> rw [e]
    · simp [fitsZ]; omega
    · simp [fitsZ]; omega
    · simp [fitsZ]; omega
    · simp only [fitsZ, Bool.and_true, ← Bool.decide_and]
      refine decide_eq_decide.2 ?_
      obtain ⟨c3, c2, c1, c0, ec, t0, t1, t2, t3, t4, t5, t6, t7, i3, i2, i1, i0, j2, j1⟩ := digits c (by omega) (by omega)
      rw [d3, f3, d2, f2, d1, f1, d0, f0, i3, i2, i1, i0]
      clear d3 d2 d1 d0 f3 f2 f1 f0 e2 e1 g2 g1 i3 i2 i1 i0 j2 j1
      constructor
      · rcases h with h | h | h | h <;> omega
      · rcases h with h | h | h | h <;> omega
/-- A row of good ends. -/
theorem row_good {f l : Int} {tails t : Nat} {a b : Int} (hk : InCut f l tails) (h : Good f l tails t a b) : Row tails a b (rowOf (a, b)) := by
  obtain ⟨tl, lo, hi, le, a0, b0, pre⟩ := h
  unfold rowOf
  have ht : t = 0 ∨ t = 1 ∨ t = 2 ∨ t = 3 := by cases hk <;> omega
  cases hk
  · rw [encodeRuneZ_one (by omega) (by omega), encodeRuneZ_one (by omega) (by omega)]
    exact row0 a b lo hi le
  · rw [encodeRuneZ_two (by omega) (by omega), encodeRuneZ_two (by omega) (by omega)]
    refine row1 a b lo hi le ?_
    rcases ht with rfl | rfl | rfl | rfl
    · simp only [pw0, Nat.zero_add, pw1] at *; omega
    · simp only [pw1] at *; omega
    · omega
    · omega
  · rw [encodeRuneZ_three (by omega), encodeRuneZ_three (by omega)]
    refine row2 a b (by omega) le ?_
    rcases ht with rfl | rfl | rfl | rfl
    · simp only [pw0, Nat.zero_add, pw1] at *; omega
    · simp only [Nat.reduceAdd, pw1, pw2] at *; omega
    · simp only [pw2] at *; omega
    · omega
  · rw [encodeRuneZ_three (by omega), encodeRuneZ_three (by omega)]
    refine row2 a b (by omega) le ?_
    rcases ht with rfl | rfl | rfl | rfl
    · simp only [pw0, Nat.zero_add, pw1] at *; omega
    · simp only [Nat.reduceAdd, pw1, pw2] at *; omega
    · simp only [pw2] at *; omega
    · omega
  · rw [encodeRuneZ_four (by omega) (by omega), encodeRuneZ_four (by omega) (by omega)]
    refine row3 a b lo hi le ?_
    rcases ht with rfl | rfl | rfl | rfl
    · simp only [pw0, Nat.zero_add, pw1] at *; omega
    · simp only [Nat.reduceAdd, pw1, pw2] at *; omega
    · simp only [Nat.reduceAdd, pw2, pw3] at *; omega
    · simp only [pw3] at *; omega
end Go.Proofs.Ytpoeklgoepjikaa.Sp
