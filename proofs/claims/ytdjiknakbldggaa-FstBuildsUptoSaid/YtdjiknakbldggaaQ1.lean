/-
  Lemmas on automata, the program's calls and the given ones, put together of 16 texts (part 1).
-/
import Derived.Lib.Hide
import Derived.Lib.BitFns
import Derived.Laws.BitsAllLaws
import Derived.Shelf.Strings.Builder1
import Derived.Shelf.Strings.Builder2
import Derived.Shelf.Strings.OnBuilder
import Derived.Shelf.Strconv.Itoa0
import Derived.Test.YtdjiknakbldggaaProg
import Derived.WalkKit
import Derived.WalkSpells
import Derived.WalkLawsBesides
import Derived.IntWalk
import Derived.Laws.DeepNot64
import Derived.OwnWalk
import Derived.Laws.IdiomStrings
import Derived.Deep.LoopGhost
import Derived.Lib.Strings
import Derived.Deep.RegionHeld3
import Derived.Deep.RegionWith
/-
  Terms with numbers, what is left of them behind a byte, and that a node tells what is left; no program is named here.
-/
namespace Go.Proofs.Ytdjiknakbldggaa.Fs

/-- A term, and its number. -/
abbrev En := List UInt8 × Int
/-- The least number. -/
def least : List En → Int
  | [] => 0
  | [e] => e.2
  | e :: f :: l => min e.2 (least (f :: l))
/-- What is left behind a byte. -/
def behind (l : List En) (c : UInt8) : List En := l.filterMap fun e => match e.1 with
  | [] => none
  | b :: t => if b = c then some (t, e.2) else none
/-- Numbers less the least one. -/
def low (l : List En) : List En := l.map fun e => (e.1, e.2 - least l)
/-- Texts in the order of their bytes. -/
def lt : List UInt8 → List UInt8 → Bool
  | [], [] => false
  | [], _ :: _ => true
  | _ :: _, [] => false
  | a :: s, b :: t => decide (a.toNat < b.toNat) || (decide (a = b) && lt s t)
theorem lt_irrefl : ∀ s, lt s s = false
  | [] => rfl
  | a :: s => by simp [lt, lt_irrefl s]
theorem lt_trans : ∀ {a b c : List UInt8}, lt a b = true → lt b c = true → lt a c = true
  | [], [], _, h, _ => by simp [lt] at h
  | [], _ :: _, [], _, h => by simp [lt] at h
  | [], _ :: _, _ :: _, _, _ => rfl
  | _ :: _, [], _, h, _ => by simp [lt] at h
  | _ :: _, _ :: _, [], _, h => by simp [lt] at h
  | x :: a, y :: b, z :: c, h, g => by
    simp only [lt, Bool.or_eq_true, Bool.and_eq_true, decide_eq_true_eq] at h g ⊢
    rcases h with h | ⟨rfl, h⟩ <;> rcases g with g | ⟨rfl, g⟩
    · exact .inl (by omega)
    · exact .inl h
    · exact .inl g
    · exact .inr ⟨rfl, lt_trans h g⟩
theorem lt_asymm {a b : List UInt8} (h : lt a b = true) : lt b a = false := by
  cases e : lt b a
  · rfl
  · have := lt_trans h e
    rw [lt_irrefl] at this
    cases this
/-- The terms rise. -/
def Rise (l : List En) : Prop := l.Pairwise fun a b => lt a.1 b.1 = true
/-- Two lists whose terms rise are alike if they have the same. -/
theorem rise_ext : ∀ {l k : List En}, Rise l → Rise k → (∀ e, e ∈ l ↔ e ∈ k) → l = k
  | [], [], _, _, _ => rfl
  | [], f :: k, _, _, h => by have := (h f).2 (by simp); cases this
  | e :: l, [], _, _, h => by have := (h e).1 (by simp); cases this
  | e :: l, f :: k, hl, hk, h => by
    obtain ⟨h1, h2⟩ := List.pairwise_cons.1 hl
    obtain ⟨h3, h4⟩ := List.pairwise_cons.1 hk
    have he : e = f := by
      rcases List.mem_cons.1 ((h e).1 (by simp)) with q | q
      · exact q
      · rcases List.mem_cons.1 ((h f).2 (by simp)) with p | p
        · exact p.symm
        · have a1 := h3 e q
          have a2 := h1 f p
          rw [lt_asymm a1] at a2
          cases a2
    subst he
    have : l = k := rise_ext h2 h4 fun g => by
      have hne : ∀ (m : List En), (∀ x ∈ m, lt e.1 x.1 = true) → e ∉ m := fun m hm q => by
        have := hm e q
        rw [lt_irrefl] at this
        cases this
      constructor
      · intro hg
        rcases List.mem_cons.1 ((h g).1 (List.mem_cons_of_mem _ hg)) with q | q
        · subst q; exact absurd hg (hne l h1)
        · exact q
      · intro hg
        rcases List.mem_cons.1 ((h g).2 (List.mem_cons_of_mem _ hg)) with q | q
        · subst q; exact absurd hg (hne k h3)
        · exact q
    rw [this]
theorem mem_behind {l : List En} {c : UInt8} {e : En} : e ∈ behind l c ↔ (c :: e.1, e.2) ∈ l := by
  unfold behind
  rw [List.mem_filterMap]
  constructor
  · rintro ⟨⟨t, o⟩, h1, h2⟩
    cases t with
    | nil => cases h2
    | cons b t =>
      dsimp only at h2
      split at h2
      · rename_i h; subst h; cases h2; exact h1
      · cases h2
  · intro h
    exact ⟨_, h, by simp⟩
theorem behind_rise {l : List En} (h : Rise l) (c : UInt8) : Rise (behind l c) := by
  unfold Rise behind at *
  rw [List.pairwise_filterMap]
  refine h.imp fun {a b} hab x hx y hy => ?_
  obtain ⟨ta, oa⟩ := a
  obtain ⟨tb, ob⟩ := b
  cases ta with
  | nil => cases hx
  | cons p s =>
    cases tb with
    | nil => cases hy
    | cons q t =>
      dsimp only at hx hy
      split at hx
      · split at hy
        · rename_i h1 h2
          subst h1 h2
          cases hx
          cases hy
          simpa [lt] using hab
        · cases hy
      · cases hx
theorem low_rise {l : List En} (h : Rise l) : Rise (low l) := by
  unfold Rise low at *
  rw [List.pairwise_map]
  exact h
/-- The number of the empty text, if it is there. -/
def last (l : List En) : Option Int := match l with
  | ([], o) :: _ => some o
  | _ => none
theorem last_mem {l : List En} (h : Rise l) {o : Int} : last l = some o ↔ ([], o) ∈ l := by
  cases l with
  | nil => simp [last]
  | cons e l =>
    obtain ⟨h1, _⟩ := List.pairwise_cons.1 h
    obtain ⟨t, p⟩ := e
    cases t with
    | nil =>
      constructor
      · intro q
        cases q
        simp
      · intro q
        rcases List.mem_cons.1 q with q | q
        · cases q; rfl
        · have := h1 _ q
          simp [lt] at this
    | cons b t =>
      constructor
      · intro q
        cases q
      · intro q
        rcases List.mem_cons.1 q with q | q
        · cases q
        · have := h1 _ q
          simp [lt] at this
/-- The ways: a byte, the least number behind it, what is left behind it. -/
def ways (l : List En) : List (UInt8 × Int × List En) := (List.range 256).filterMap fun n => if behind l n.toUInt8 = [] then none else some (n.toUInt8, least (behind l n.toUInt8), low (behind l n.toUInt8))
theorem byte_nat (c : UInt8) : c.toNat.toUInt8 = c ∧ c.toNat < 256 := ⟨by simp, c.toNat_lt⟩
theorem mem_ways {l : List En} {c : UInt8} {m : Int} {r : List En} : (c, m, r) ∈ ways l ↔ behind l c ≠ [] ∧ m = least (behind l c) ∧ r = low (behind l c) := by
  unfold ways
  rw [List.mem_filterMap]
  constructor
  · rintro ⟨n, _, h⟩
    split at h
    · cases h
    · rename_i h1
      cases h
      exact ⟨h1, rfl, rfl⟩
  · rintro ⟨h1, rfl, rfl⟩
    refine ⟨c.toNat, List.mem_range.2 (byte_nat c).2, ?_⟩
    rw [(byte_nat c).1, if_neg h1]
/-- A node tells what is left: its end and its ways. -/
theorem node_tells {l k : List En} (hl : Rise l) (hk : Rise k) (h1 : last l = last k) (h2 : ways l = ways k) : l = k := by
  have key : ∀ {l k : List En}, Rise l → Rise k → last l = last k → ways l = ways k → ∀ e, e ∈ l → e ∈ k := by
    intro l k hl hk h1 h2 e he
    obtain ⟨t, o⟩ := e
    cases t with
    | nil =>
      have := (last_mem hl).2 he
      rw [h1] at this
      exact (last_mem hk).1 this
    | cons c t =>
      have hb : (t, o) ∈ behind l c := mem_behind.2 he
      have hne : behind l c ≠ [] := fun q => by rw [q] at hb; cases hb
      have hw : (c, least (behind l c), low (behind l c)) ∈ ways k := by
        rw [← h2]
        exact mem_ways.2 ⟨hne, rfl, rfl⟩
      obtain ⟨_, q1, q2⟩ := mem_ways.1 hw
      have hlow : (t, o - least (behind l c)) ∈ low (behind k c) := by
        rw [← q2]
        exact List.mem_map.2 ⟨_, hb, rfl⟩
      obtain ⟨⟨t', o'⟩, q3, q4⟩ := List.mem_map.1 hlow
      simp only [Prod.mk.injEq] at q4
      obtain ⟨rfl, q5⟩ := q4
      have : o' = o := by omega
      subst this
      exact mem_behind.1 q3
  exact rise_ext hl hk fun e => ⟨key hl hk h1 h2 e, key hk hl h1.symm h2.symm e⟩
theorem least_le : ∀ {l : List En} {e : En}, e ∈ l → least l ≤ e.2
  | [f], e, h => by
    simp at h
    subst h
    exact Int.le_refl _
  | f :: g :: l, e, h => by
    rcases List.mem_cons.1 h with rfl | h
    · exact Int.min_le_left _ _
    · exact Int.le_trans (Int.min_le_right _ _) (least_le h)
theorem least_mem : ∀ {l : List En}, l ≠ [] → ∃ e ∈ l, e.2 = least l
  | [], h => absurd rfl h
  | [e], _ => ⟨e, by simp, rfl⟩
  | e :: f :: l, _ => by
    obtain ⟨g, h1, h2⟩ := least_mem (l := f :: l) (by simp)
    by_cases h : e.2 ≤ least (f :: l)
    · exact ⟨e, by simp, (Int.min_eq_left h).symm⟩
    · exact ⟨g, List.mem_cons_of_mem _ h1, by rw [h2]; exact (Int.min_eq_right (by omega)).symm⟩
end Go.Proofs.Ytdjiknakbldggaa.Fs

/-
  The nodes of terms, one behind those to which its ways lead, none told twice; no program is named here.
-/
namespace Go.Proofs.Ytdjiknakbldggaa.Fs

/-- The nodes behind one, those that were met ahead of it kept. -/
def go : Nat → List En → List (List En) → List (List En)
  | 0, _, M => M
  | n + 1, l, M => if l ∈ M then M else (ways l).foldl (fun M w => go n w.2.2 M) M ++ [l]
/-- How long the longest term is. -/
def deep (l : List En) : Nat := l.foldr (fun e n => max e.1.length n) 0
theorem deep_le {l : List En} {e : En} (h : e ∈ l) : e.1.length ≤ deep l := by
  induction l with
  | nil => cases h
  | cons f l ih =>
    show _ ≤ max f.1.length (deep l)
    rcases List.mem_cons.1 h with rfl | h
    · omega
    · have := ih h; omega
theorem deep_of {l : List En} {n : Nat} (h : ∀ e ∈ l, e.1.length ≤ n) : deep l ≤ n := by
  induction l with
  | nil => exact Nat.zero_le _
  | cons f l ih =>
    show max f.1.length (deep l) ≤ n
    have := h f (by simp)
    have := ih fun e he => h e (List.mem_cons_of_mem _ he)
    omega
theorem deep_way {l : List En} {w : UInt8 × Int × List En} (h : w ∈ ways l) : deep w.2.2 < deep l := by
  obtain ⟨c, m, r⟩ := w
  obtain ⟨h1, _, rfl⟩ := mem_ways.1 h
  have h2 : ∀ e ∈ low (behind l c), e.1.length + 1 ≤ deep l := fun e he => by
    obtain ⟨f, h3, rfl⟩ := List.mem_map.1 he
    have := deep_le (mem_behind.1 h3)
    simpa using this
  obtain ⟨e, he⟩ := List.exists_mem_of_ne_nil _ h1
  have h3 := h2 (e.1, e.2 - least (behind l c)) (List.mem_map.2 ⟨e, he, rfl⟩)
  have : deep (low (behind l c)) ≤ deep l - 1 := deep_of fun e he => by have := h2 e he; omega
  show deep (low (behind l c)) < deep l
  omega
/-- What a node's rests are: some, rising, numbers of which the least one is 0. -/
structure Good (l : List En) : Prop where
  ne : l ≠ []
  rise : Rise l
  least : least l = 0
theorem low_least {l : List En} (h : l ≠ []) : Fs.least (low l) = 0 := by
  have hne : low l ≠ [] := fun q => h (List.map_eq_nil_iff.1 q)
  obtain ⟨e, h1, h2⟩ := least_mem hne
  obtain ⟨f, h3, rfl⟩ := List.mem_map.1 h1
  obtain ⟨g, h4, h5⟩ := least_mem h
  have h6 := least_le (l := low l) (e := (g.1, g.2 - Fs.least l)) (List.mem_map.2 ⟨g, h4, rfl⟩)
  have h7 := least_le h3
  dsimp only at h2 h6
  omega
theorem good_low {l : List En} (h : l ≠ []) (hr : Rise l) : Good (low l) := ⟨fun q => h (List.map_eq_nil_iff.1 q), low_rise hr, low_least h⟩
theorem good_way {l : List En} (h : Rise l) {w : UInt8 × Int × List En} (hw : w ∈ ways l) : Good w.2.2 := by
  obtain ⟨c, m, r⟩ := w
  obtain ⟨h1, _, rfl⟩ := mem_ways.1 hw
  exact good_low h1 (behind_rise h c)
theorem way_pos {l : List En} (h : Good l) {w : UInt8 × Int × List En} (hw : w ∈ ways l) : 0 ≤ w.2.1 := by
  obtain ⟨c, m, r⟩ := w
  obtain ⟨h1, rfl, _⟩ := mem_ways.1 hw
  obtain ⟨e, h2, h3⟩ := least_mem h1
  have := least_le (mem_behind.1 h2)
  rw [h.least] at this
  dsimp only at this ⊢
  omega
/-- Nodes, each behind those to which its ways lead, none twice. -/
structure Net (M : List (List En)) : Prop where
  nodup : M.Nodup
  good : ∀ l ∈ M, Good l
  ahead : ∀ (i : Nat) l, M[i]? = some l → ∀ w ∈ ways l, w.2.2 ∈ M.take i
theorem net_nil : Net [] := ⟨List.nodup_nil, fun _ h => (by cases h), fun i l h => (by simp at h)⟩
theorem net_snoc {M : List (List En)} (h : Net M) {l : List En} (hl : Good l) (hn : l ∉ M) (hw : ∀ w ∈ ways l, w.2.2 ∈ M) : Net (M ++ [l]) := by
  refine ⟨?_, fun k hk => ?_, fun i k hk w hkw => ?_⟩
  · rw [List.nodup_append]
    refine ⟨h.nodup, by simp, fun a ha b hb => ?_⟩
    rw [List.mem_singleton.1 hb]
    rintro rfl
    exact hn ha
  · rcases List.mem_append.1 hk with hk | hk
    · exact h.good k hk
    · rw [List.mem_singleton.1 hk]; exact hl
  · by_cases hi : i < M.length
    · rw [List.getElem?_append_left hi] at hk
      rw [List.take_append_of_le_length (by omega)]
      exact h.ahead i k hk w hkw
    · have hlt := (List.getElem?_eq_some_iff.1 hk).1
      simp at hlt
      obtain rfl : i = M.length := by omega
      simp at hk
      subst hk
      rw [List.take_left']
      · exact hw w hkw
      · rfl
/-- What go answers: nodes more, among them the one that was asked for. -/
theorem go_net : ∀ (n : Nat) (l : List En) (M : List (List En)), Net M → Good l → deep l < n → Net (go n l M) ∧ (∃ K, go n l M = M ++ K) ∧ l ∈ go n l M
  | 0, _, _, _, _, h => by omega
  | n + 1, l, M, hM, hl, hd => by
    unfold go
    by_cases hin : l ∈ M
    · rw [if_pos hin]
      exact ⟨hM, ⟨[], by simp⟩, hin⟩
    · rw [if_neg hin]
      -- over the ways, one behind the other
      have key : ∀ (ws : List (UInt8 × Int × List En)) (M : List (List En)), Net M → l ∉ M → (∀ w ∈ ws, w ∈ ways l) → Net (ws.foldl (fun M w => go n w.2.2 M) M) ∧ (∃ K, ws.foldl (fun M w => go n w.2.2 M) M = M ++ K ∧ ∀ k ∈ K, deep k < deep l) ∧ ∀ w ∈ ws, w.2.2 ∈ ws.foldl (fun M w => go n w.2.2 M) M := by
        intro ws
        induction ws with
        | nil => intro M hM _ _; exact ⟨hM, ⟨[], by simp, fun _ h => (by cases h)⟩, fun _ h => (by cases h)⟩
        | cons w ws ih =>
          intro M hM hn hw
          have hww := hw w (by simp)
          obtain ⟨a1, ⟨K, a2⟩, a3⟩ := go_net n w.2.2 M hM (good_way hl.rise hww) (by have := deep_way hww; omega)
          have a4 := go_deep n w.2.2 M
          rw [List.foldl_cons]
          have hn2 : l ∉ go n w.2.2 M := fun q => by
            rcases a4 l q with q | q
            · exact hn q
            · have := deep_way hww; omega
          obtain ⟨b1, ⟨K2, b2, b4⟩, b3⟩ := ih (go n w.2.2 M) a1 hn2 fun v hv => hw v (List.mem_cons_of_mem _ hv)
          refine ⟨b1, ⟨K ++ K2, by rw [b2, a2, List.append_assoc], fun k hk => ?_⟩, fun v hv => ?_⟩
          · rcases List.mem_append.1 hk with hk | hk
            · have hk2 : k ∈ go n w.2.2 M := by rw [a2]; exact List.mem_append_right _ hk
              rcases a4 k hk2 with q | q
              · -- a node that was there isn't told again
                have := a1.nodup
                rw [a2, List.nodup_append] at this
                exact absurd rfl (this.2.2 k q k hk)
              · have := deep_way hww; omega
            · exact b4 k hk
          · rcases List.mem_cons.1 hv with rfl | hv
            · rw [b2]; exact List.mem_append_left _ a3
            · exact b3 v hv
      obtain ⟨c1, ⟨K, c2, c4⟩, c3⟩ := key (ways l) M hM hin fun _ h => h
      have hn3 : l ∉ (ways l).foldl (fun M w => go n w.2.2 M) M := fun q => by
        rw [c2] at q
        rcases List.mem_append.1 q with q | q
        · exact hin q
        · have := c4 l q; omega
      exact ⟨net_snoc c1 hl hn3 c3, ⟨K ++ [l], by rw [c2, List.append_assoc]⟩, by simp⟩
  where
  go_deep : ∀ (n : Nat) (l : List En) (M : List (List En)), ∀ k ∈ go n l M, k ∈ M ∨ deep k ≤ deep l
  | 0, _, _ => fun k h => .inl h
  | n + 1, l, M => fun k hk => by
    unfold go at hk
    split at hk
    · exact .inl hk
    · rcases List.mem_append.1 hk with hk | hk
      · have key : ∀ (ws : List (UInt8 × Int × List En)) (M : List (List En)), (∀ w ∈ ws, w ∈ ways l) → ∀ k ∈ ws.foldl (fun M w => go n w.2.2 M) M, k ∈ M ∨ deep k ≤ deep l := by
          intro ws
          induction ws with
          | nil => intro M _ k hk; exact .inl hk
          | cons w ws ih =>
            intro M hw k hk
            rw [List.foldl_cons] at hk
            rcases ih _ (fun v hv => hw v (List.mem_cons_of_mem _ hv)) k hk with q | q
            · rcases go_deep n w.2.2 M k q with q | q
              · exact .inl q
              · have := deep_way (hw w (by simp)); exact .inr (by omega)
            · exact .inr q
        exact key (ways l) M (fun _ h => h) k hk
      · rw [List.mem_singleton.1 hk]; exact .inr (Nat.le_refl _)
/-- The nodes of terms. -/
def nodes (l : List En) : List (List En) := if l = [] then [] else go (deep l + 1) (low l) []
theorem deep_low (l : List En) : deep (low l) = deep l := by
  unfold deep low
  rw [List.foldr_map]
theorem nodes_net {l : List En} (h : Rise l) : Net (nodes l) := by
  unfold nodes
  by_cases hl : l = []
  · rw [if_pos hl]; exact net_nil
  · rw [if_neg hl]
    exact (go_net _ _ _ net_nil (good_low hl h) (by rw [deep_low]; omega)).1
/-- The node of all terms is the last one. -/
theorem nodes_last {l : List En} (h : l ≠ []) : ∃ K, nodes l = K ++ [low l] := by
  unfold nodes
  rw [if_neg h]
  unfold go
  rw [if_neg (by simp)]
  exact ⟨_, rfl⟩
end Go.Proofs.Ytdjiknakbldggaa.Fs

/-
  Going along the ways: a term's number; all terms, rising; nodes by their places; no two nodes alike; no program is named here.
-/
namespace Go.Proofs.Ytdjiknakbldggaa.Fs

/-- The number of a term, by the ways. -/
def get (l : List En) : List UInt8 → Option Int
  | [] => last l
  | c :: t => if behind l c = [] then none else (get (low (behind l c)) t).map (· + least (behind l c))
theorem get_iff : ∀ (t : List UInt8) {l : List En} {o : Int}, Rise l → (get l t = some o ↔ (t, o) ∈ l)
  | [], l, o, h => last_mem h
  | c :: t, l, o, h => by
    unfold get
    by_cases hb : behind l c = []
    · rw [if_pos hb]
      constructor
      · intro q; cases q
      · intro q
        have : (t, o) ∈ behind l c := mem_behind.2 q
        rw [hb] at this
        cases this
    · rw [if_neg hb, Option.map_eq_some_iff]
      have ih : ∀ p, get (low (behind l c)) t = some p ↔ (t, p) ∈ low (behind l c) := fun p => get_iff t (low_rise (behind_rise h c))
      constructor
      · rintro ⟨p, h1, rfl⟩
        obtain ⟨⟨t', o'⟩, h2, h3⟩ := List.mem_map.1 ((ih p).1 h1)
        simp only [Prod.mk.injEq] at h3
        obtain ⟨rfl, rfl⟩ := h3
        rw [show o' - least (behind l c) + least (behind l c) = o' by omega]
        exact mem_behind.1 h2
      · intro q
        refine ⟨o - least (behind l c), (ih _).2 (List.mem_map.2 ⟨(t, o), mem_behind.2 q, rfl⟩), by omega⟩
/-- Numbers that are more by so much, terms behind a byte. -/
def up (c : UInt8) (m : Int) (l : List En) : List En := l.map fun e => (c :: e.1, e.2 + m)
theorem ways_rise (l : List En) : (ways l).Pairwise fun a b => a.1.toNat < b.1.toNat := by
  unfold ways
  rw [List.pairwise_filterMap]
  have hr : (List.range 256).Pairwise fun a b => a < b ∧ b < 256 := by
    rw [List.pairwise_iff_getElem]
    intro i j hi hj hij
    simp at hi hj ⊢
    omega
  refine hr.imp fun {a b} hab x hx y hy => ?_
  split at hx
  · cases hx
  · split at hy
    · cases hy
    · cases hx
      cases hy
      show a.toUInt8.toNat < b.toUInt8.toNat
      rw [UInt8.toNat_ofNat', UInt8.toNat_ofNat']
      omega
/-- What is left, told by the end and the ways. -/
theorem told {l : List En} (h : Rise l) : l = (match last l with | some o => [([], o)] | none => []) ++ (ways l).flatMap fun w => up w.1 w.2.1 w.2.2 := by
  refine rise_ext h ?_ fun e => ?_
  · unfold Rise
    rw [List.pairwise_append]
    refine ⟨?_, ?_, ?_⟩
    · cases last l with
      | none => exact .nil
      | some o => exact List.pairwise_singleton _ _
    · rw [List.pairwise_flatMap]
      refine ⟨fun w hw => ?_, ?_⟩
      · unfold up
        rw [List.pairwise_map]
        refine ((good_way h hw).rise).imp fun {a b} hab => ?_
        simpa [lt] using hab
      · refine (ways_rise l).imp fun {a b} hab x hx y hy => ?_
        obtain ⟨x', _, rfl⟩ := List.mem_map.1 hx
        obtain ⟨y', _, rfl⟩ := List.mem_map.1 hy
        simp [lt, hab]
    · intro a ha b hb
      obtain ⟨w, _, hb⟩ := List.mem_flatMap.1 hb
      obtain ⟨b', _, rfl⟩ := List.mem_map.1 hb
      cases hl : last l with
      | none => rw [hl] at ha; cases ha
      | some o =>
        rw [hl] at ha
        rw [List.mem_singleton.1 ha]
        rfl
  · rw [List.mem_append, List.mem_flatMap]
    obtain ⟨t, o⟩ := e
    constructor
    · intro he
      cases t with
      | nil =>
        left
        rw [(last_mem h).2 he]
        simp
      | cons c t =>
        right
        have hb : (t, o) ∈ behind l c := mem_behind.2 he
        refine ⟨(c, least (behind l c), low (behind l c)), mem_ways.2 ⟨fun q => (by rw [q] at hb; cases hb), rfl, rfl⟩, ?_⟩
        refine List.mem_map.2 ⟨(t, o - least (behind l c)), List.mem_map.2 ⟨_, hb, rfl⟩, ?_⟩
        simp only [Prod.mk.injEq, true_and]
        omega
    · rintro (he | ⟨⟨c, m, r⟩, hw, he⟩)
      · cases hl : last l with
        | none => rw [hl] at he; cases he
        | some p =>
          rw [hl] at he
          rw [List.mem_singleton.1 he]
          exact (last_mem h).1 hl
      · obtain ⟨_, rfl, rfl⟩ := mem_ways.1 hw
        obtain ⟨f, h1, h2⟩ := List.mem_map.1 he
        obtain ⟨⟨t', o'⟩, h3, rfl⟩ := List.mem_map.1 h1
        simp only [Prod.mk.injEq] at h2
        obtain ⟨rfl, rfl⟩ := h2
        have := mem_behind.1 h3
        rw [show o' - least (behind l c) + least (behind l c) = o' by omega]
        exact this
/-- Where rests stand among nodes. -/
def at_ (M : List (List En)) (r : List En) : Nat := M.findIdx (· == r)
theorem at_lt {M : List (List En)} {r : List En} (h : r ∈ M) : at_ M r < M.length := List.findIdx_lt_length_of_exists ⟨r, h, by simp⟩
theorem at_get {M : List (List En)} {r : List En} (h : r ∈ M) : M[at_ M r]'(at_lt h) = r := by
  have := List.findIdx_getElem (p := (· == r)) (xs := M) (w := at_lt h)
  exact eq_of_beq this
theorem at_inj {M : List (List En)} {r s : List En} (hr : r ∈ M) (hs : s ∈ M) (h : at_ M r = at_ M s) : r = s := by
  rw [← at_get hr, ← at_get hs]
  simp only [h]
theorem at_of {M : List (List En)} (h : M.Nodup) {i : Nat} (hi : i < M.length) : at_ M M[i] = i := by
  have h1 := at_get (List.getElem_mem hi)
  exact (List.getElem_inj h).1 h1
theorem at_append {M K : List (List En)} {r : List En} (h : r ∈ M) : at_ (M ++ K) r = at_ M r := by
  unfold at_
  rw [List.findIdx_append, if_pos (show List.findIdx (· == r) M < M.length from at_lt h)]
theorem at_take {M : List (List En)} {r : List En} {i : Nat} (h : r ∈ M.take i) : at_ M r < i := by
  have h2 := at_append (K := M.drop i) h
  rw [List.take_append_drop] at h2
  rw [h2]
  have := at_lt h
  rw [List.length_take] at this
  omega
/-- A node, as it is told. -/
def node (M : List (List En)) (l : List En) : Option Int × List (UInt8 × Int × Nat) := (last l, (ways l).map fun w => (w.1, w.2.1, at_ M w.2.2))
/-- No two nodes are told alike. -/
theorem node_inj {M : List (List En)} (hM : Net M) {l k : List En} (hl : l ∈ M) (hk : k ∈ M) (h : node M l = node M k) : l = k := by
  unfold node at h
  injection h with h1 h2
  refine node_tells (hM.good l hl).rise (hM.good k hk).rise h1 ?_
  have inM : ∀ {l : List En}, l ∈ M → ∀ w ∈ ways l, w.2.2 ∈ M := fun {l} hl w hw => by
    obtain ⟨i, hi⟩ := List.mem_iff_getElem?.1 hl
    exact List.mem_of_mem_take (hM.ahead i l hi w hw)
  have key : ∀ (a b : List (UInt8 × Int × List En)), (∀ w ∈ a, w.2.2 ∈ M) → (∀ w ∈ b, w.2.2 ∈ M) → (a.map fun w => (w.1, w.2.1, at_ M w.2.2)) = (b.map fun w => (w.1, w.2.1, at_ M w.2.2)) → a = b := by
    intro a
    induction a with
    | nil => intro b _ _ h; cases b with | nil => rfl | cons _ _ => cases h
    | cons w a ih =>
      intro b ha hb h
      cases b with
      | nil => cases h
      | cons v b =>
        simp only [List.map_cons, List.cons.injEq, Prod.mk.injEq] at h
        obtain ⟨⟨e1, e2, e3⟩, e4⟩ := h
        have e5 := at_inj (ha w (by simp)) (hb v (by simp)) e3
        rw [ih b (fun x hx => ha x (List.mem_cons_of_mem _ hx)) (fun x hx => hb x (List.mem_cons_of_mem _ hx)) e4]
        obtain ⟨w1, w2, w3⟩ := w
        obtain ⟨v1, v2, v3⟩ := v
        dsimp only at e1 e2 e5
        rw [e1, e2, e5]
  exact key _ _ (inM hl) (inM hk) h2
end Go.Proofs.Ytdjiknakbldggaa.Fs

/-
  Numbers that are all more by so much; ways, group by group; how many nodes there are; no program is named here.
-/
namespace Go.Proofs.Ytdjiknakbldggaa.Fs

/-- Numbers that are more by so much. -/
def add (d : Int) (l : List En) : List En := l.map fun e => (e.1, e.2 + d)
theorem low_add_eq (l : List En) : low l = add (-(least l)) l := by
  unfold low add
  exact List.map_congr_left fun e _ => by rw [Int.sub_eq_add_neg]
theorem least_add (d : Int) : ∀ (l : List En), l ≠ [] → least (add d l) = least l + d
  | [], h => absurd rfl h
  | [e], _ => rfl
  | e :: f :: l, _ => by
    have ih := least_add d (f :: l) (by simp)
    show min (e.2 + d) (least (add d (f :: l))) = min e.2 (least (f :: l)) + d
    rw [ih]
    omega
theorem add_add (c d : Int) (l : List En) : add c (add d l) = add (d + c) l := by
  unfold add
  rw [List.map_map]
  exact List.map_congr_left fun e _ => by show (e.1, e.2 + d + c) = _; rw [Int.add_assoc]
theorem add_zero (l : List En) : add 0 l = l := by
  unfold add
  rw [show (fun e : En => (e.1, e.2 + 0)) = id from funext fun e => by simp]
  exact List.map_id l
theorem low_add (d : Int) (l : List En) : low (add d l) = low l := by
  by_cases h : l = []
  · subst h; rfl
  · rw [low_add_eq, low_add_eq, least_add d l h, add_add]
    congr 1
    omega
theorem up_low (l : List En) : add (least l) (low l) = l := by
  rw [low_add_eq, add_add, show -(least l) + least l = 0 by omega, add_zero]
theorem behind_add (d : Int) (l : List En) (c : UInt8) : behind (add d l) c = add d (behind l c) := by
  unfold behind add
  rw [List.filterMap_map, List.map_filterMap]
  congr 1
  funext e
  obtain ⟨t, o⟩ := e
  cases t with
  | nil => rfl
  | cons b t =>
    show (if b = c then some (t, o + d) else none) = Option.map _ (if b = c then some (t, o) else none)
    split <;> rfl
theorem add_nil {d : Int} {l : List En} : add d l = [] ↔ l = [] := List.map_eq_nil_iff
theorem ways_add (d : Int) (l : List En) : ways (add d l) = (ways l).map fun w => (w.1, w.2.1 + d, w.2.2) := by
  unfold ways
  rw [List.map_filterMap]
  congr 1
  funext n
  rw [behind_add]
  by_cases h : behind l n.toUInt8 = []
  · rw [if_pos h, if_pos (add_nil.2 h)]; rfl
  · rw [if_neg h, if_neg (fun q => h (add_nil.1 q)), least_add d _ h, low_add]; rfl
theorem last_add (d : Int) (l : List En) : last (add d l) = (last l).map (· + d) := by
  cases l with
  | nil => rfl
  | cons e l =>
    obtain ⟨t, o⟩ := e
    cases t <;> rfl
theorem add_rise {d : Int} {l : List En} (h : Rise l) : Rise (add d l) := by
  unfold Rise add at *
  rw [List.pairwise_map]
  exact h
theorem good_of_low {l : List En} (h : Good l) : low l = l := by
  rw [low_add_eq, h.least]
  exact add_zero l

/-! ### ways, group by group -/
theorem pw_ext {α : Type} {R : α → α → Prop} (asym : ∀ a b, R a b → ¬ R b a) : ∀ {l k : List α}, l.Pairwise R → k.Pairwise R → (∀ e, e ∈ l ↔ e ∈ k) → l = k
  | [], [], _, _, _ => rfl
  | [], f :: k, _, _, h => by have := (h f).2 (by simp); cases this
  | e :: l, [], _, _, h => by have := (h e).1 (by simp); cases this
  | e :: l, f :: k, hl, hk, h => by
    obtain ⟨h1, h2⟩ := List.pairwise_cons.1 hl
    obtain ⟨h3, h4⟩ := List.pairwise_cons.1 hk
    have he : e = f := by
      rcases List.mem_cons.1 ((h e).1 (by simp)) with q | q
      · exact q
      · rcases List.mem_cons.1 ((h f).2 (by simp)) with p | p
        · exact p.symm
        · exact absurd (h1 f p) (asym _ _ (h3 e q))
    subst he
    have hne : ∀ (m : List α), (∀ x ∈ m, R e x) → e ∉ m := fun m hm q => asym _ _ (hm e q) (hm e q)
    have : l = k := pw_ext asym h2 h4 fun g => by
      constructor
      · intro hg
        rcases List.mem_cons.1 ((h g).1 (List.mem_cons_of_mem _ hg)) with q | q
        · subst q; exact absurd hg (hne l h1)
        · exact q
      · intro hg
        rcases List.mem_cons.1 ((h g).2 (List.mem_cons_of_mem _ hg)) with q | q
        · subst q; exact absurd hg (hne k h3)
        · exact q
    rw [this]
/-- Whether a text begins with a byte. -/
def hd (c : UInt8) (e : En) : Bool := match e.1 with
  | [] => false
  | b :: _ => b == c
def grp (c : UInt8) (l : List En) : List En := l.takeWhile (hd c)
def rst (c : UInt8) (l : List En) : List En := l.dropWhile (hd c)
theorem grp_rst (c : UInt8) (l : List En) : grp c l ++ rst c l = l := List.takeWhile_append_dropWhile
theorem hd_iff {c : UInt8} {e : En} : hd c e = true ↔ ∃ t, e.1 = c :: t := by
  unfold hd
  obtain ⟨t, o⟩ := e
  cases t with
  | nil => simp
  | cons b t => simp
theorem rst_more {c : UInt8} : ∀ {l : List En}, Rise l → (∀ e ∈ l, ∃ b s, e.1 = b :: s ∧ c.toNat ≤ b.toNat) → ∀ e ∈ rst c l, ∃ b s, e.1 = b :: s ∧ c.toNat < b.toNat
  | [], _, _, e, he => by cases he
  | x :: l, hr, ha, e, he => by
    obtain ⟨h1, h2⟩ := List.pairwise_cons.1 hr
    unfold rst at he
    rw [List.dropWhile_cons] at he
    by_cases hx : hd c x = true
    · rw [if_pos hx] at he
      exact rst_more h2 (fun y hy => ha y (List.mem_cons_of_mem _ hy)) e he
    · rw [if_neg hx] at he
      obtain ⟨b, s, hb, hc⟩ := ha x (by simp)
      have hbc : c.toNat < b.toNat := by
        rcases Nat.lt_or_ge c.toNat b.toNat with q | q
        · exact q
        · have e1 : b = c := UInt8.toNat_inj.1 (by omega)
          exact absurd (hd_iff.2 ⟨s, by rw [hb, e1]⟩) hx
      rcases List.mem_cons.1 he with rfl | he
      · exact ⟨b, s, hb, hbc⟩
      · obtain ⟨b2, s2, hb2, _⟩ := ha e (List.mem_cons_of_mem _ he)
        have := h1 e he
        rw [hb, hb2] at this
        simp only [lt, Bool.or_eq_true, Bool.and_eq_true, decide_eq_true_eq] at this
        refine ⟨b2, s2, hb2, ?_⟩
        rcases this with q | ⟨q, _⟩
        · omega
        · rw [← q]; exact hbc
theorem behind_append (l k : List En) (c : UInt8) : behind (l ++ k) c = behind l c ++ behind k c := by
  unfold behind
  rw [List.filterMap_append]
theorem filterMap_same {f g : En → Option En} : ∀ {l : List En}, (∀ e ∈ l, f e = g e) → l.filterMap f = l.filterMap g
  | [], _ => rfl
  | e :: l, h => by
    rw [List.filterMap_cons, List.filterMap_cons, h e (by simp), filterMap_same fun x hx => h x (List.mem_cons_of_mem _ hx)]
theorem behind_none {l : List En} {c : UInt8} (h : ∀ e ∈ l, ¬ hd c e = true) : behind l c = [] := by
  cases hb : behind l c with
  | nil => rfl
  | cons e k =>
    have : e ∈ behind l c := by rw [hb]; simp
    exact absurd (hd_iff.2 ⟨e.1, rfl⟩) (h _ (mem_behind.1 this))
theorem grp_hd {c : UInt8} {l : List En} : ∀ e ∈ grp c l, hd c e = true := fun e he => by
  have := List.all_takeWhile (p := hd c) (l := l)
  exact List.all_eq_true.1 this e he
theorem rise_grp {c : UInt8} {l : List En} (h : Rise l) : Rise (grp c l) := List.Pairwise.sublist (List.takeWhile_sublist _) h
theorem rise_rst {c : UInt8} {l : List En} (h : Rise l) : Rise (rst c l) := List.Pairwise.sublist (List.dropWhile_sublist _) h
/-- The terms that begin with the first one's byte, and the others. -/
theorem behind_grp {l : List En} {c : UInt8} (hr : Rise l) (ha : ∀ e ∈ l, ∃ b s, e.1 = b :: s ∧ c.toNat ≤ b.toNat) : behind l c = (grp c l).map fun e => (e.1.tail, e.2) := by
  have h1 : behind (rst c l) c = [] := behind_none fun e he q => by
    obtain ⟨b, s, hb, hc⟩ := rst_more hr ha e he
    obtain ⟨t, ht⟩ := hd_iff.1 q
    rw [hb] at ht
    injection ht with q1 _
    subst q1
    omega
  conv => lhs; rw [← grp_rst c l]
  rw [behind_append, h1, List.append_nil]
  unfold behind
  rw [show (grp c l).map (fun e : En => (e.1.tail, e.2)) = (grp c l).filterMap (some ∘ fun e : En => (e.1.tail, e.2)) from by rw [List.filterMap_eq_map]]
  refine filterMap_same fun e he => ?_
  obtain ⟨t, ht⟩ := hd_iff.1 (grp_hd e he)
  rw [ht]
  show (if c = c then some (t, e.2) else none) = some (e.1.tail, e.2)
  rw [if_pos rfl, ht]
  rfl
theorem rise_first {l : List En} {c : UInt8} {t : List UInt8} {o : Int} (hr : Rise ((c :: t, o) :: l)) : ∀ e ∈ (c :: t, o) :: l, ∃ b s, e.1 = b :: s ∧ c.toNat ≤ b.toNat := fun e he => by
  obtain ⟨h1, _⟩ := List.pairwise_cons.1 hr
  rcases List.mem_cons.1 he with rfl | he
  · exact ⟨c, t, rfl, Nat.le_refl _⟩
  · have := h1 e he
    cases hs : e.1 with
    | nil => rw [hs] at this; simp [lt] at this
    | cons b s =>
      rw [hs] at this
      simp only [lt, Bool.or_eq_true, Bool.and_eq_true, decide_eq_true_eq] at this
      refine ⟨b, s, rfl, ?_⟩
      rcases this with q | ⟨q, _⟩
      · omega
      · rw [q]; exact Nat.le_refl _
theorem ways_cons {l : List En} {c : UInt8} {t : List UInt8} {o : Int} (hr : Rise ((c :: t, o) :: l)) :
    ways ((c :: t, o) :: l) = (c, least (behind ((c :: t, o) :: l) c), low (behind ((c :: t, o) :: l) c)) :: ways (rst c ((c :: t, o) :: l)) := by
  have ha := rise_first hr
  generalize hL : (c :: t, o) :: l = L at *
  have hc : behind L c ≠ [] := fun q => by
    have : (t, o) ∈ behind L c := mem_behind.2 (by rw [← hL]; simp)
    rw [q] at this
    cases this
  have hm := rst_more hr ha
  have hd2 : ∀ d, d ≠ c → behind L d = behind (rst c L) d := fun d hd => by
    conv => lhs; rw [← grp_rst c L]
    rw [behind_append, behind_none, List.nil_append]
    intro e he q
    obtain ⟨t1, h1⟩ := hd_iff.1 (grp_hd e he)
    obtain ⟨t2, h2⟩ := hd_iff.1 q
    rw [h1] at h2
    injection h2 with q1 _
    exact hd q1.symm
  have hc2 : behind (rst c L) c = [] := behind_none fun e he q => by
    obtain ⟨b, s, hb, hc⟩ := hm e he
    obtain ⟨t, ht⟩ := hd_iff.1 q
    rw [hb] at ht
    injection ht with q1 _
    subst q1
    omega
  have hlo : ∀ w ∈ ways (rst c L), c.toNat < w.1.toNat := fun w hw => by
    obtain ⟨d, m, r⟩ := w
    obtain ⟨h1, _, _⟩ := mem_ways.1 hw
    obtain ⟨e, he⟩ := List.exists_mem_of_ne_nil _ h1
    obtain ⟨b, s, hb, hc⟩ := hm _ (mem_behind.1 he)
    injection hb with q1 _
    rw [q1]; exact hc
  refine pw_ext (R := fun a b => a.1.toNat < b.1.toNat) (fun a b h1 h2 => by omega) (ways_rise L) (List.pairwise_cons.2 ⟨hlo, ways_rise _⟩) fun w => ?_
  obtain ⟨d, m, r⟩ := w
  rw [List.mem_cons, mem_ways, mem_ways]
  by_cases hd : d = c
  · subst hd
    constructor
    · rintro ⟨_, rfl, rfl⟩
      exact .inl rfl
    · rintro (q | ⟨q, _⟩)
      · injection q with q1 q2
        injection q2 with q2 q3
        exact ⟨hc, q2, q3⟩
      · exact absurd hc2 q
  · rw [hd2 d hd]
    constructor
    · intro q; exact .inr q
    · rintro (q | q)
      · injection q with q1 _
        exact absurd q1 hd
      · exact q
theorem ways_end (o : Int) (l : List En) : ways (([], o) :: l) = ways l := rfl
theorem ways_nil : ways [] = [] := by
  cases h : ways [] with
  | nil => rfl
  | cons w k =>
    have : w ∈ ways [] := by rw [h]; simp
    obtain ⟨c, m, r⟩ := w
    obtain ⟨h1, _⟩ := mem_ways.1 this
    exact absurd rfl h1
/-- The least number is that of the end, or of a group. -/
theorem least_cons (e : En) (l : List En) (h : l ≠ []) : least (e :: l) = min e.2 (least l) := by
  cases l with
  | nil => exact absurd rfl h
  | cons f l => rfl
theorem least_append : ∀ (l k : List En), l ≠ [] → k ≠ [] → least (l ++ k) = min (least l) (least k)
  | [], _, h, _ => absurd rfl h
  | [e], k, _, hk => least_cons e k hk
  | e :: f :: l, k, _, hk => by
    have ih := least_append (f :: l) k (by simp) hk
    show least (e :: (f :: l ++ k)) = min (min e.2 (least (f :: l))) (least k)
    rw [least_cons e _ (by simp), ih]
    omega
theorem least_map (l : List En) (f : List UInt8 → List UInt8) : least (l.map fun e => (f e.1, e.2)) = least l := by
  induction l with
  | nil => rfl
  | cons e l ih =>
    by_cases h : l = []
    · subst h; rfl
    · rw [List.map_cons, least_cons _ _ (fun q => h (List.map_eq_nil_iff.1 q)), ih, least_cons _ _ h]

/-! ### how many nodes there are -/
/-- How long all terms are. -/
def total (l : List En) : Nat := (l.map fun e => e.1.length).sum
theorem total_append (l k : List En) : total (l ++ k) = total l + total k := by
  unfold total
  rw [List.map_append, List.sum_append]
theorem total_up (c : UInt8) (m : Int) (l : List En) : total (up c m l) = total l + l.length := by
  unfold total up
  induction l with
  | nil => rfl
  | cons e l ih =>
    simp only [List.map_cons, List.sum_cons, List.length_cons] at ih ⊢
    omega
theorem total_ways {l : List En} (h : Rise l) : ((ways l).map fun w => total w.2.2 + 1).sum ≤ total l := by
  have h1 : ∀ w ∈ ways l, 0 < w.2.2.length := fun w hw => List.length_pos_iff.2 (good_way h hw).ne
  have h2 : total ((ways l).flatMap fun w => up w.1 w.2.1 w.2.2) ≤ total l := by
    conv => rhs; rw [told h]
    rw [total_append]
    omega
  refine Nat.le_trans ?_ h2
  clear h2
  revert h1
  generalize ways l = k
  intro h1
  induction k with
  | nil => exact Nat.le_refl _
  | cons w k ih =>
    rw [List.map_cons, List.sum_cons, List.flatMap_cons, total_append, total_up]
    have := ih fun v hv => h1 v (List.mem_cons_of_mem _ hv)
    have := h1 w (by simp)
    omega
theorem go_length : ∀ (n : Nat) (l : List En) (M : List (List En)), Rise l → (go n l M).length ≤ M.length + 1 + total l
  | 0, _, _, _ => by unfold go; omega
  | n + 1, l, M, h => by
    unfold go
    split
    · omega
    · have key : ∀ (ws : List (UInt8 × Int × List En)) (M : List (List En)), (∀ w ∈ ws, Rise w.2.2) → (ws.foldl (fun M w => go n w.2.2 M) M).length ≤ M.length + (ws.map fun w => total w.2.2 + 1).sum := by
        intro ws
        induction ws with
        | nil => intro M _; exact Nat.le_refl _
        | cons w ws ih =>
          intro M hr
          rw [List.foldl_cons, List.map_cons, List.sum_cons]
          have h1 := go_length n w.2.2 M (hr w (by simp))
          have h2 := ih (go n w.2.2 M) fun v hv => hr v (List.mem_cons_of_mem _ hv)
          omega
      have h1 := key (ways l) M fun w hw => (good_way h hw).rise
      have h2 := total_ways h
      rw [List.length_append, List.length_singleton]
      omega
theorem nodes_length {l : List En} (h : Rise l) : (nodes l).length ≤ 1 + total l := by
  unfold nodes
  split
  · exact Nat.zero_le _
  · have h1 := go_length (deep l + 1) (low l) [] (low_rise h)
    have h2 : total (low l) = total l := by
      unfold total low
      rw [List.map_map]
      rfl
    rw [h2] at h1
    simpa using h1
/-- Ways whose nodes are all there add none. -/
theorem fold_met {n : Nat} : ∀ {ws : List (UInt8 × Int × List En)} {M : List (List En)}, (∀ w ∈ ws, w.2.2 ∈ M ∧ 0 < n) → ws.foldl (fun M w => go n w.2.2 M) M = M
  | [], _, _ => rfl
  | w :: ws, M, h => by
    rw [List.foldl_cons]
    have h1 : go n w.2.2 M = M := by
      obtain ⟨h1, h2⟩ := h w (by simp)
      obtain ⟨m, rfl⟩ : ∃ m, n = m + 1 := ⟨n - 1, by omega⟩
      unfold go
      rw [if_pos h1]
    rw [h1]
    exact fold_met fun v hv => h v (List.mem_cons_of_mem _ hv)
theorem net_ways {M : List (List En)} (h : Net M) {l : List En} (hl : l ∈ M) : ∀ w ∈ ways l, w.2.2 ∈ M := fun w hw => by
  obtain ⟨i, hi⟩ := List.mem_iff_getElem?.1 hl
  exact List.mem_of_mem_take (h.ahead i l hi w hw)
/-- The nodes behind all of some ways. -/
def fold (n : Nat) (ws : List (UInt8 × Int × List En)) (M : List (List En)) : List (List En) := ws.foldl (fun M w => go n w.2.2 M) M
theorem fold_snoc (n : Nat) (ws : List (UInt8 × Int × List En)) (w : UInt8 × Int × List En) (M : List (List En)) : fold n (ws ++ [w]) M = go n w.2.2 (fold n ws M) := by
  unfold fold
  rw [List.foldl_append]
  rfl
/-- What a way of a node adds. -/
theorem fold_net {n : Nat} {l : List En} (hl : Rise l) (hd : deep l < n + 1) : ∀ {ws : List (UInt8 × Int × List En)} {M : List (List En)}, Net M → (∀ w ∈ ws, w ∈ ways l) → Net (fold n ws M) ∧ (∃ K, fold n ws M = M ++ K) ∧ (∀ w ∈ ws, w.2.2 ∈ fold n ws M) ∧ ∀ k ∈ fold n ws M, k ∈ M ∨ deep k < deep l := by
  intro ws
  induction ws with
  | nil => intro M hM _; exact ⟨hM, ⟨[], by simp [fold]⟩, fun _ h => (by cases h), fun k hk => .inl hk⟩
  | cons w ws ih =>
    intro M hM hw
    have hww := hw w (by simp)
    have hdw := deep_way hww
    obtain ⟨a1, ⟨K, a2⟩, a3⟩ := go_net n w.2.2 M hM (good_way hl hww) (by omega)
    have a4 := go_net.go_deep 0 [] n w.2.2 M
    obtain ⟨b1, ⟨K2, b2⟩, b3, b4⟩ := ih a1 fun v hv => hw v (List.mem_cons_of_mem _ hv)
    have e : fold n (w :: ws) M = fold n ws (go n w.2.2 M) := rfl
    rw [e]
    refine ⟨b1, ⟨K ++ K2, by rw [b2, a2, List.append_assoc]⟩, fun v hv => ?_, fun k hk => ?_⟩
    · rcases List.mem_cons.1 hv with rfl | hv
      · rw [b2]; exact List.mem_append_left _ a3
      · exact b3 v hv
    · rcases b4 k hk with q | q
      · rcases a4 k q with q | q
        · exact .inl q
        · exact .inr (by omega)
      · exact .inr q
/-- The nodes behind one, whether it was met or not. -/
theorem go_fold {n : Nat} {l : List En} {M : List (List En)} (hM : Net M) (hl : Rise l) (hd : deep l < n + 1) : go (n + 1) l M = (if l ∈ fold n (ways l) M then fold n (ways l) M else fold n (ways l) M ++ [l]) ∧ (l ∈ fold n (ways l) M → fold n (ways l) M = M) := by
  obtain ⟨_, ⟨K, h2⟩, _, h4⟩ := fold_net hl hd hM (fun w (h : w ∈ ways l) => h)
  by_cases h : l ∈ M
  · have hf : fold n (ways l) M = M := fold_met fun w hw => ⟨net_ways hM h w hw, by have := deep_way hw; omega⟩
    rw [hf]
    unfold go
    rw [if_pos h]
    rw [if_pos h]
    exact ⟨rfl, fun _ => rfl⟩
  · have hn : l ∉ fold n (ways l) M := fun q => by
      rcases h4 l q with q | q
      · exact h q
      · omega
    rw [if_neg hn]
    unfold go
    rw [if_neg h]
    exact ⟨rfl, fun q => absurd q hn⟩
end Go.Proofs.Ytdjiknakbldggaa.Fs

/-
  The plain mathematics of numbers and texts as bytes: widths, big-endian bytes, and what is read back; no program is named here.
-/
namespace Go.Proofs.Ytdjiknakbldggaa.Pl

/-- How many bytes a number needs, at least one. -/
def wid (m : Nat) : Nat :=
  if m < 256 then 1 else if m < 65536 then 2 else if m < 16777216 then 3 else if m < 4294967296 then 4
  else if m < 1099511627776 then 5 else if m < 281474976710656 then 6 else if m < 72057594037927936 then 7 else 8

theorem wid_le (m : Nat) : 1 ≤ wid m ∧ wid m ≤ 8 := by
  unfold wid
  repeat' split
  all_goals omega

theorem bitLenAux_zero (f : Nat) : Go.Lib.bitLenAux f 0 = 0 := by
  cases f with
  | zero => rfl
  | succ f => simp [Go.Lib.bitLenAux]
theorem bitLenAux_iff : ∀ (f x k : Nat), k < f → (Go.Lib.bitLenAux f x ≤ k ↔ x < 2 ^ k) := by
  intro f
  induction f with
  | zero => intro x k h; omega
  | succ f ih =>
    intro x k h
    unfold Go.Lib.bitLenAux
    split
    · rename_i hx
      subst hx
      exact ⟨fun _ => Nat.two_pow_pos k, fun _ => Nat.zero_le _⟩
    · rename_i hx
      cases k with
      | zero => simp; omega
      | succ k =>
        have := ih (x / 2) k (by omega)
        rw [Nat.pow_succ]
        omega
theorem bitLen_le (x : Nat) : Go.Lib.bitLen x ≤ 64 := by
  have : ∀ f x, Go.Lib.bitLenAux f x ≤ f := by
    intro f
    induction f with
    | zero => intro x; exact Nat.le_refl _
    | succ f ih =>
      intro x
      unfold Go.Lib.bitLenAux
      split
      · omega
      · have := ih (x / 2); omega
  exact this 64 x
/-- The width by the length in bits. -/
theorem wid_bitLen (m : Nat) : Nat.max 1 ((Go.Lib.bitLen m + 7) / 8) = wid m := by
  have h1 := bitLenAux_iff 64 m 8 (by omega)
  have h2 := bitLenAux_iff 64 m 16 (by omega)
  have h3 := bitLenAux_iff 64 m 24 (by omega)
  have h4 := bitLenAux_iff 64 m 32 (by omega)
  have h5 := bitLenAux_iff 64 m 40 (by omega)
  have h6 := bitLenAux_iff 64 m 48 (by omega)
  have h7 := bitLenAux_iff 64 m 56 (by omega)
  have h9 := bitLen_le m
  change (Go.Lib.bitLen m ≤ _ ↔ _) at h1 h2 h3 h4 h5 h6 h7
  simp only [Nat.reducePow] at h1 h2 h3 h4 h5 h6 h7
  generalize Go.Lib.bitLen m = b at *
  unfold wid
  simp only [Nat.max_def]
  repeat' split
  all_goals omega

/-- The value of bytes, the highest first, each turned by f. -/
def val (f : Nat) : List UInt8 → Nat → Nat
  | [], m => m
  | b :: t, m => val f t (256 * m + (b.toNat ^^^ f))

theorem val_append (f : Nat) (l r : List UInt8) (m : Nat) : val f (l ++ r) m = val f r (val f l m) := by
  induction l generalizing m with
  | nil => rfl
  | cons b t ih => exact ih _
theorem val_snoc (f : Nat) (l : List UInt8) (b : UInt8) (m : Nat) : val f (l ++ [b]) m = 256 * val f l m + (b.toNat ^^^ f) := by
  rw [val_append]; rfl
theorem xor_lt (b : UInt8) (f : Nat) (hf : f < 256) : b.toNat ^^^ f < 256 := by
  have h := b.toNat_lt
  exact Nat.xor_lt_two_pow (n := 8) (by simpa using h) (by simpa using hf)
theorem val_lt (f : Nat) (hf : f < 256) (l : List UInt8) : ∀ m k, m < 256 ^ k → val f l m < 256 ^ (k + l.length) := by
  induction l with
  | nil => intro m k h; simpa [val] using h
  | cons b t ih =>
    intro m k h
    have hb := xor_lt b f hf
    have : 256 * m + (b.toNat ^^^ f) < 256 ^ (k + 1) := by rw [Nat.pow_succ]; omega
    have := ih _ _ this
    simpa [val, Nat.add_assoc, Nat.add_comm, Nat.add_left_comm] using this

/-- What is read as a number at the head of bytes: the number, how many bytes, the error. -/
def rdWide (c : UInt8) (t : List UInt8) (f : Nat) : Int × Int × Int :=
  if 247 < c.toNat ^^^ f then (0, 0, 3)
  else if t.length < (c.toNat ^^^ f) - 239 then (0, 0, 2)
  else if wid (val f (t.take ((c.toNat ^^^ f) - 239)) 0) < (c.toNat ^^^ f) - 239 ∨ 9223372036854775695 < val f (t.take ((c.toNat ^^^ f) - 239)) 0 then (0, 0, 3)
  else ((val f (t.take ((c.toNat ^^^ f) - 239)) 0 : Int) + 112, ((c.toNat ^^^ f : Nat) : Int) - 238, 0)

/-- From the number without its sign to the number. -/
def back (f : Nat) (x : Int × Int × Int) : Int × Int × Int := if x.2.2 = 0 ∧ f ≠ 0 then (-x.1 - 1, x.2) else x

def flipOf (c : UInt8) : Nat := if c.toNat < 128 then 255 else 0

def rdNum : List UInt8 → Int × Int × Int
  | [] => (0, 0, 2)
  | c :: t =>
    if c.toNat ^^^ flipOf c < 240 then back (flipOf c) (((c.toNat ^^^ flipOf c : Nat) : Int) - 128, 1, 0)
    else back (flipOf c) (rdWide c t (flipOf c))

def rdCount (l : List UInt8) : Int × Int × Int := if (rdNum l).1 < 0 then (0, 0, 3) else rdNum l

/-- What is read as a text: what has been read, how many bytes of it; the text, how many bytes, the error. -/
def rdText : List UInt8 → List UInt8 → Nat → List UInt8 × Int × Int
  | [], _, _ => ([], 0, 2)
  | 0 :: [], _, _ => ([], 0, 2)
  | 0 :: d :: t, out, k => if d = 255 then rdText t (out ++ [0]) (k + 2) else if d = 1 then (out, (k : Int) + 2, 0) else ([], 0, 3)
  | c :: t, out, k => rdText t (out ++ [c]) (k + 1)

def rdBlock (l : List UInt8) : List UInt8 × Int × Int :=
  if (rdCount l).2.2 ≠ 0 then ([], 0, (rdCount l).2.2)
  else if (l.length : Int) - (rdCount l).2.1 < (rdCount l).1 then ([], 0, 2)
  else ((l.drop (rdCount l).2.1.toNat).take (rdCount l).1.toNat, (rdCount l).2.1 + (rdCount l).1, 0)

/-- The bytes of a number of k bytes, the highest first, each turned by f. -/
def be (f : Nat) : Nat → Nat → List UInt8
  | 0, _ => []
  | k + 1, m => UInt8.ofNat ((m / 256 ^ k % 256) ^^^ f) :: be f k m

def mag (n : Int) : Nat := if n < 0 then (-n - 1).toNat else n.toNat
def sgn (n : Int) : Nat := if n < 0 then 255 else 0
/-- The bytes of a number. -/
def numB (n : Int) : List UInt8 :=
  if mag n < 112 then [UInt8.ofNat ((128 + mag n) ^^^ sgn n)]
  else UInt8.ofNat ((239 + wid (mag n - 112)) ^^^ sgn n) :: be (sgn n) (wid (mag n - 112)) (mag n - 112)
def numsB (l : List Int) : List UInt8 := l.flatMap numB
end Go.Proofs.Ytdjiknakbldggaa.Pl

/-
  Contracts of library functions at this program's numbers, each one application of the library's theorem.
-/
namespace Go.Proofs
open Go.Shelf
def Try.lays169_ren : Go.Shelf.Ren := ⟨fun | 169 => 47 | n => n, fun | 70 => 89 | 9 => 9 | 0 => 0 | 72 => 91 | 37 => 79 | 127 => 113 | 3 => 3 | 5 => 5 | n => n, fun | n => n⟩
theorem Try.lays169 : Go.Proofs.Lays.n169 Try.prog Try.lays169_ren := {
  mixed := by kernel_rfl
  f169 := Try.func47.trans (congrArg some (by kernel_rfl))
  t0 := Try.underlying0
  a0 := Try.isAgg0
  z0 := Try.sizeOf0
  v0 := Try.zeroValue0
  t3 := Try.underlying3
  a3 := Try.isAgg3
  z3 := Try.sizeOf3
  v3 := Try.zeroValue3
  t9 := Try.underlying9
  a9 := Try.isAgg9
  z9 := Try.sizeOf9
  v9 := Try.zeroValue9
  t37 := Try.underlying79
  a37 := Try.isAgg79
  z37 := Try.sizeOf79
  v37 := Try.zeroValue79
  t70 := Try.underlying89
  a70 := Try.isAgg89
  z70 := Try.sizeOf89
  v70 := Try.zeroValue89
  t72 := Try.underlying91
  a72 := Try.isAgg91
  z72 := Try.sizeOf91
  v72 := Try.zeroValue91
  t127 := Try.underlying113
  a127 := Try.isAgg113
  z127 := Try.sizeOf113
  v127 := Try.zeroValue113 }
theorem Try.Builder_Extra_169 : Builder.Extra Try.prog Try.lays169_ren := {
  sizeBuilder := by kernel_rfl
  liesBuilder := by kernel_rfl
  t5 := Try.underlying5
  a5 := Try.isAgg5
  z5 := Try.sizeOf5
  v5 := Try.zeroValue5
  infoByte := by kernel_rfl
  cellsByte := by kernel_rfl
  sizeByte := by kernel_rfl
  neB5 := by decide }
open Go.RowKit in
theorem Try.Builder_String (B b : Nat) (l : List UInt8) (w : World) (h : Lib.IsBuilder 91 5 B b (Lib.byteCells l) w) (h0 : l ≠ []) :
    Calls Try.prog 47 #[.pointer (some ⟨b, 0, none⟩)] w fun e w' => e = .returned (.string ⟨l.toArray⟩) ∧ Below B w w' := Any.Builder_String Try.lays169 Try.Builder_Extra_169 B b l w h h0
open Go.RowKit in
theorem Try.Builder_String_empty (B b : Nat) (w : World) (h : Lib.IsBuilder 91 5 B b [] w) (hBw : B ≤ w.heap.size) :
    Calls Try.prog 47 #[.pointer (some ⟨b, 0, none⟩)] w fun e w' => e = .returned (.string ⟨#[]⟩) ∧ Below B w w' := Any.Builder_String_empty Try.lays169 Try.Builder_Extra_169 B b w h hBw
open Go.RowKit in
theorem Try.Builder_String_any (B b : Nat) (l : List UInt8) (w : World) (h : Lib.IsBuilder 91 5 B b (Lib.byteCells l) w) (hBw : B ≤ w.heap.size) :
    Calls Try.prog 47 #[.pointer (some ⟨b, 0, none⟩)] w fun e w' => e = .returned (.string ⟨l.toArray⟩) ∧ Below B w w' := Any.Builder_String_any Try.lays169 Try.Builder_Extra_169 B b l w h hBw
def Try.lays241_ren : Go.Shelf.Ren := ⟨fun | 241 => 56 | 277 => 63 | n => n, fun | 70 => 89 | 3 => 3 | 0 => 0 | 72 => 91 | 37 => 79 | 5 => 5 | n => n, fun | n => n⟩
theorem Try.lays241 : Go.Proofs.Lays.n241 Try.prog Try.lays241_ren := {
  mixed := by kernel_rfl
  f241 := Try.func56.trans (congrArg some (by kernel_rfl))
  f277 := Try.func63.trans (congrArg some (by kernel_rfl))
  t0 := Try.underlying0
  a0 := Try.isAgg0
  z0 := Try.sizeOf0
  v0 := Try.zeroValue0
  t3 := Try.underlying3
  a3 := Try.isAgg3
  z3 := Try.sizeOf3
  v3 := Try.zeroValue3
  t37 := Try.underlying79
  a37 := Try.isAgg79
  z37 := Try.sizeOf79
  v37 := Try.zeroValue79
  t70 := Try.underlying89
  a70 := Try.isAgg89
  z70 := Try.sizeOf89
  v70 := Try.zeroValue89
  t72 := Try.underlying91
  a72 := Try.isAgg91
  z72 := Try.sizeOf91
  v72 := Try.zeroValue91 }
theorem Try.Builder_Extra_241 : Builder.Extra Try.prog Try.lays241_ren := {
  sizeBuilder := by kernel_rfl
  liesBuilder := by kernel_rfl
  t5 := Try.underlying5
  a5 := Try.isAgg5
  z5 := Try.sizeOf5
  v5 := Try.zeroValue5
  infoByte := by kernel_rfl
  cellsByte := by kernel_rfl
  sizeByte := by kernel_rfl
  neB5 := by decide }
open Go.RowKit in
theorem Try.Builder_grow_fresh (B b n : Nat) (w : World) (hB : B ≤ b) (hbk : w.heap[b]? = some (.cells #[.pointer (some ⟨b, 0, none⟩), .slice none 0 0] 91 (0, 0))) (hBw : B ≤ w.heap.size) (hn : n ≤ 281474976710656) :
    Calls Try.prog 56 #[.pointer (some ⟨b, 0, none⟩), .int .i64 n] w fun e w' => e = .returned (.tuple #[]) ∧ (Lib.BuilderAt 91 5 B b (.pointer (some ⟨b, 0, none⟩)) [] w' ∧ Below B w w') := Any.Builder_grow_fresh Try.lays241 Try.Builder_Extra_241 B b n w hB hbk hBw hn
def Try.lays165_ren : Go.Shelf.Ren := ⟨fun | 165 => 45 | 240 => 55 | 241 => 56 | 276 => 62 | 277 => 63 | n => n, fun | 70 => 89 | 3 => 3 | 0 => 0 | 4 => 4 | 9 => 9 | 20 => 20 | 72 => 91 | 37 => 79 | 164 => 118 | 5 => 5 | n => n, fun | n => n⟩
theorem Try.lays165 : Go.Proofs.Lays.n165 Try.prog Try.lays165_ren := {
  mixed := by kernel_rfl
  f165 := Try.func45.trans (congrArg some (by kernel_rfl))
  f240 := Try.func55.trans (congrArg some (by kernel_rfl))
  f241 := Try.func56.trans (congrArg some (by kernel_rfl))
  f276 := Try.func62.trans (congrArg some (by kernel_rfl))
  f277 := Try.func63.trans (congrArg some (by kernel_rfl))
  t0 := Try.underlying0
  a0 := Try.isAgg0
  z0 := Try.sizeOf0
  v0 := Try.zeroValue0
  t3 := Try.underlying3
  a3 := Try.isAgg3
  z3 := Try.sizeOf3
  v3 := Try.zeroValue3
  t4 := Try.underlying4
  a4 := Try.isAgg4
  z4 := Try.sizeOf4
  v4 := Try.zeroValue4
  t9 := Try.underlying9
  a9 := Try.isAgg9
  z9 := Try.sizeOf9
  v9 := Try.zeroValue9
  t20 := Try.underlying20
  a20 := Try.isAgg20
  z20 := Try.sizeOf20
  v20 := Try.zeroValue20
  t37 := Try.underlying79
  a37 := Try.isAgg79
  z37 := Try.sizeOf79
  v37 := Try.zeroValue79
  t70 := Try.underlying89
  a70 := Try.isAgg89
  z70 := Try.sizeOf89
  v70 := Try.zeroValue89
  t72 := Try.underlying91
  a72 := Try.isAgg91
  z72 := Try.sizeOf91
  v72 := Try.zeroValue91
  t164 := Try.underlying118
  a164 := Try.isAgg118
  z164 := Try.sizeOf118
  v164 := Try.zeroValue118 }
theorem Try.Builder_Extra_165 : Builder.Extra Try.prog Try.lays165_ren := {
  sizeBuilder := by kernel_rfl
  liesBuilder := by kernel_rfl
  t5 := Try.underlying5
  a5 := Try.isAgg5
  z5 := Try.sizeOf5
  v5 := Try.zeroValue5
  infoByte := by kernel_rfl
  cellsByte := by kernel_rfl
  sizeByte := by kernel_rfl
  neB5 := by decide }
open Go.RowKit in
theorem Try.Builder_Grow_fresh (B b n : Nat) (w : World) (hB : B ≤ b) (hbk : w.heap[b]? = some (.cells #[.pointer none, .slice none 0 0] 91 (0, 0))) (hBw : B ≤ w.heap.size) (hn : n ≤ 281474976710656) :
    Calls Try.prog 45 #[.pointer (some ⟨b, 0, none⟩), .int .i64 n] w fun e w' => e = .returned (.tuple #[]) ∧ (Lib.BuilderAt 91 5 B b (.pointer (some ⟨b, 0, none⟩)) [] w' ∧ Below B w w') := Any.Builder_Grow_fresh Try.lays165 Try.Builder_Extra_165 B b n w hB hbk hBw hn
def Try.lays156_ren : Go.Shelf.Ren := ⟨fun | 156 => 28 | 165 => 45 | 166 => 46 | 169 => 47 | 240 => 55 | 241 => 56 | 276 => 62 | 277 => 63 | n => n, fun | 31 => 40 | 9 => 9 | 3 => 3 | 4 => 4 | 0 => 0 | 20 => 20 | 72 => 91 | 76 => 95 | 70 => 89 | 37 => 79 | 75 => 94 | 127 => 113 | 164 => 118 | 5 => 5 | 80 => 97 | n => n, fun | n => n⟩
theorem Try.lays156 : Go.Proofs.Lays.n156 Try.prog Try.lays156_ren := {
  mixed := by kernel_rfl
  f156 := Try.func28.trans (congrArg some (by kernel_rfl))
  f165 := Try.func45.trans (congrArg some (by kernel_rfl))
  f166 := Try.func46.trans (congrArg some (by kernel_rfl))
  f169 := Try.func47.trans (congrArg some (by kernel_rfl))
  f240 := Try.func55.trans (congrArg some (by kernel_rfl))
  f241 := Try.func56.trans (congrArg some (by kernel_rfl))
  f276 := Try.func62.trans (congrArg some (by kernel_rfl))
  f277 := Try.func63.trans (congrArg some (by kernel_rfl))
  t0 := Try.underlying0
  a0 := Try.isAgg0
  z0 := Try.sizeOf0
  v0 := Try.zeroValue0
  t3 := Try.underlying3
  a3 := Try.isAgg3
  z3 := Try.sizeOf3
  v3 := Try.zeroValue3
  t4 := Try.underlying4
  a4 := Try.isAgg4
  z4 := Try.sizeOf4
  v4 := Try.zeroValue4
  t9 := Try.underlying9
  a9 := Try.isAgg9
  z9 := Try.sizeOf9
  v9 := Try.zeroValue9
  t20 := Try.underlying20
  a20 := Try.isAgg20
  z20 := Try.sizeOf20
  v20 := Try.zeroValue20
  t31 := Try.underlying40
  a31 := Try.isAgg40
  z31 := Try.sizeOf40
  v31 := Try.zeroValue40
  t37 := Try.underlying79
  a37 := Try.isAgg79
  z37 := Try.sizeOf79
  v37 := Try.zeroValue79
  t70 := Try.underlying89
  a70 := Try.isAgg89
  z70 := Try.sizeOf89
  v70 := Try.zeroValue89
  t72 := Try.underlying91
  a72 := Try.isAgg91
  z72 := Try.sizeOf91
  v72 := Try.zeroValue91
  t75 := Try.underlying94
  a75 := Try.isAgg94
  z75 := Try.sizeOf94
  v75 := Try.zeroValue94
  t76 := Try.underlying95
  a76 := Try.isAgg95
  z76 := Try.sizeOf95
  v76 := Try.zeroValue95
  t127 := Try.underlying113
  a127 := Try.isAgg113
  z127 := Try.sizeOf113
  v127 := Try.zeroValue113
  t164 := Try.underlying118
  a164 := Try.isAgg118
  z164 := Try.sizeOf118
  v164 := Try.zeroValue118 }
theorem Try.Builder_Extra_156 : Builder.Extra Try.prog Try.lays156_ren := {
  sizeBuilder := by kernel_rfl
  liesBuilder := by kernel_rfl
  t5 := Try.underlying5
  a5 := Try.isAgg5
  z5 := Try.sizeOf5
  v5 := Try.zeroValue5
  infoByte := by kernel_rfl
  cellsByte := by kernel_rfl
  sizeByte := by kernel_rfl
  neB5 := by decide }
open Go.RowKit in
theorem Try.strings_Join_none (a : Option Addr) (c : Nat) (sep : ByteArray) (w : World) :
    Calls Try.prog 28 #[.slice a 0 c, .string sep] w fun e w' => e = .returned (.string ⟨#[]⟩) ∧ w' = w := Any.strings_Join_none Try.lays156 Try.Builder_Extra_156 a c sep w
open Go.RowKit in
theorem Try.strings_Join (bk o c : Nat) (xs : List ByteArray) (sep : ByteArray) (w : World) (hcells : ∀ (j : Nat) x, xs[j]? = some x → w.cell? ⟨bk, o + j, none⟩ = some (.string x)) (hbk : bk < w.heap.size) (hN : xs.length ≤ 140737488355328) (hcap : xs.length ≤ c) (hlen : (Lib.join (xs.map (·.data.toList)) sep.data.toList).length ≤ 140737488355328) :
    Calls Try.prog 28 #[.slice (some ⟨bk, o, none⟩) xs.length c, .string sep] w fun e w' => e = .returned (.string ⟨(Lib.join (xs.map (·.data.toList)) sep.data.toList).toArray⟩) ∧ Below w.heap.size w w' := Any.strings_Join Try.lays156 Try.Builder_Extra_156 bk o c xs sep w hcells hbk hN hcap hlen
def Try.lays129_ren : Go.Shelf.Ren := ⟨fun | 129 => 61 | n => n, fun | 53 => 99 | 3 => 3 | 4 => 4 | 46 => 125 | 5 => 5 | 9 => 9 | n => n, fun | n => n⟩
theorem Try.lays129 : Go.Proofs.Lays.n129 Try.prog Try.lays129_ren := {
  mixed := by kernel_rfl
  f129 := Try.func61.trans (congrArg some (by kernel_rfl))
  t3 := Try.underlying3
  a3 := Try.isAgg3
  z3 := Try.sizeOf3
  v3 := Try.zeroValue3
  t4 := Try.underlying4
  a4 := Try.isAgg4
  z4 := Try.sizeOf4
  v4 := Try.zeroValue4
  t5 := Try.underlying5
  a5 := Try.isAgg5
  z5 := Try.sizeOf5
  v5 := Try.zeroValue5
  t9 := Try.underlying9
  a9 := Try.isAgg9
  z9 := Try.sizeOf9
  v9 := Try.zeroValue9
  t46 := Try.underlying125
  a46 := Try.isAgg125
  z46 := Try.sizeOf125
  v46 := Try.zeroValue125
  t53 := Try.underlying99
  a53 := Try.isAgg99
  z53 := Try.sizeOf99
  v53 := Try.zeroValue99 }
theorem Try.bits_Len64 (x : Int) (w : World) (h0 : 0 ≤ x) (h1 : x ≤ 18446744073709551615) :
    Calls Try.prog 61 #[.int .u64 x] w fun e w' => e = .returned (.int .i64 (Lib.bitLen x.toNat)) ∧ w' = w := Any.bits_Len64 Try.lays129 x w h0 h1
end Go.Proofs

/-
  What the readers and writers of numbers answer, call by call, as plain functions of their arguments.
-/
namespace Go.Proofs.Ytdjiknakbldggaa
open Go.RowKit

theorem ret_int {k : IntKind} {a b : Int} (h : a = b) : Ending.returned (.int k a) = .returned (.int k b) := by rw [h]

set_option maxHeartbeats 400000 in
theorem width_any (m : Nat) (w : World) (hm : m < 18446744073709551616) :
    Calls Try.prog 54 #[.int .u64 m] w fun e w' => e = .returned (.int .i64 (Pl.wid m)) ∧ w = w' := by
  have hb := Pl.bitLen_le m
  have hw := Pl.wid_bitLen m
  have HW : Hid (max 1 (((Lib.bitLen m : Int) + 7) / 8) = (Pl.wid m : Int)) := by
    show _ = _
    rw [← hw]
    show _ = ((max 1 ((Lib.bitLen m + 7) / 8) : Nat) : Int)
    omega
  clear hw
  go_enter Try.func54, Try.ntmps54
  go_wp2_with (go_at_call 61; refine (Try.bits_Len64 _ _ (by omega) (by omega)).mono ?_; rintro e w' ⟨rfl, rfl⟩)
  go_ret
  exact ⟨ret_int HW.out, rfl⟩

set_option maxHeartbeats 400000 in
theorem readWide_far (s : ByteArray) (f a : Nat) (w : World) (h0 : 0 < s.size) (hx : bits .xor .u8 (s[0].toNat : Int) (f : Int) = (a : Int)) (ha : 247 < a) (ha2 : a < 256) :
    Calls Try.prog 66 #[.string s, .int .u8 f] w fun e w' => e = .returned (.tuple #[.int .i64 0, .int .i64 0, .int .i64 3]) ∧ w = w' := by
  go_enter Try.func66, Try.ntmps66
  go_wp2_with fail
  go_ret3
  exact ⟨rfl, rfl⟩
set_option maxHeartbeats 400000 in
theorem readWide_short (s : ByteArray) (f k : Nat) (w : World) (h0 : 0 < s.size) (hsz : s.size ≤ 9223372036854775807) (hx : bits .xor .u8 (s[0].toNat : Int) (f : Int) = (k : Int) + 239) (hk8 : k ≤ 8) (hk : s.size ≤ k) :
    Calls Try.prog 66 #[.string s, .int .u8 f] w fun e w' => e = .returned (.tuple #[.int .i64 0, .int .i64 0, .int .i64 2]) ∧ w = w' := by
  go_enter Try.func66, Try.ntmps66
  go_wp2_with fail
  go_ret3
  exact ⟨rfl, rfl⟩
theorem or_byte (m b : Nat) (hm : m < 72057594037927936) (hb : b < 256) :
    bits .or .u64 (IntKind.u64.wrap ((m : Int) * 256)) (IntKind.u64.wrap (b : Int)) = ((256 * m + b : Nat) : Int) := by
  rw [IntKind.wrap_u64, IntKind.wrap_u64, show (m : Int) * 256 % 18446744073709551616 = ((256 * m : Nat) : Int) from by omega, show (b : Int) % 18446744073709551616 = (b : Int) from by omega, u64_or_nat _ _ (by omega) (by omega)]
  rw [nat_join 8 (256 * m) b (by simp [Nat.mul_mod_right]) (by simpa using hb)]
theorem tail_take (s : ByteArray) (j : Nat) (h : j + 1 < s.size) : s.data.toList.tail.take (j + 1) = s.data.toList.tail.take j ++ [s[j+1]] := by
  have hl : j < s.data.toList.tail.length := by simp; omega
  rw [List.take_succ_eq_append_getElem hl]
  simp
  rfl
theorem val_bound (f : Nat) (hf : f < 256) (l : List UInt8) (j n : Nat) (hn : j ≤ n) : Pl.val f (l.take j) 0 < 256 ^ n := by
  have h := Pl.val_lt f hf (l.take j) 0 0 (by simp)
  have hl : (l.take j).length ≤ j := List.length_take_le _ _
  exact Nat.lt_of_lt_of_le h (Nat.pow_le_pow_right (by omega) (by omega))
set_option maxHeartbeats 1000000 in
theorem readWide_loop (s : ByteArray) (f k : Nat) (w : World) (hf : f < 256) (h0 : 0 < s.size) (hsz : s.size ≤ 9223372036854775807) (hx : bits .xor .u8 (s[0].toNat : Int) (f : Int) = (k : Int) + 239) (hk1 : 1 ≤ k) (hk8 : k ≤ 8) (hk : k < s.size)
    (n z e : Int) (hr : (if Pl.wid (Pl.val f (s.data.toList.tail.take k) 0) < k ∨ 9223372036854775695 < Pl.val f (s.data.toList.tail.take k) 0 then ((0, 0, 3) : Int × Int × Int) else ((Pl.val f (s.data.toList.tail.take k) 0 : Int) + 112, 1 + (k : Int), 0)) = (n, z, e)) :
    Calls Try.prog 66 #[.string s, .int .u8 f] w fun e' w' => e' = .returned (.tuple #[.int .i64 n, .int .i64 z, .int .i64 e]) ∧ w = w' := by
  have HR := Lib.hid hr
  clear hr
  go_enter Try.func66, Try.ntmps66
  go_wp2_with fail
  go_loop [8, 9] (fun m i => ∃ j : Nat, j ≤ k ∧ i = .int .i64 ((j : Int) + 1) ∧ m = .int .u64 (Pl.val f (s.data.toList.tail.take j) 0)) (fun _ i => k + 1 - (intOf i).toNat)
  case atStart => exact ⟨0, Nat.zero_le _, rfl, rfl⟩
  case round =>
    obtain ⟨j, hj, rfl, rfl⟩ := hrel
    by_cases hlt : j < k
    · have hi : j + 1 < s.size := by omega
      have hxor := u8_xor_nat s[j+1].toNat f s[j+1].toNat_lt hf
      have hst : Hid (Pl.val f (s.data.toList.tail.take (j + 1)) 0 = 256 * Pl.val f (s.data.toList.tail.take j) 0 + (s[j+1].toNat ^^^ f)) := by
        show _ = _
        rw [tail_take s j hi, Pl.val_snoc]
      have hv : Hid (Pl.val f (s.data.toList.tail.take j) 0 < 72057594037927936) := val_bound f hf _ j 7 (by omega)
      have hb : Hid (s[j+1].toNat ^^^ f < 256) := Pl.xor_lt _ _ hf
      go_wp2_with fail
      go_round
      case rel => exact ⟨j + 1, by omega, by go_num, by rw [hst.out, or_byte _ _ hv.out hb.out]⟩
      case measure => simp [intOf]; omega
    · obtain rfl : j = k := by omega
      have hb : Pl.val f (s.data.toList.tail.take j) 0 < 18446744073709551616 := val_bound f hf _ j 8 hk8
      have hwl := Pl.wid_le (Pl.val f (s.data.toList.tail.take j) 0)
      have hr := HR.out
      clear HR
      generalize Pl.val f (s.data.toList.tail.take j) 0 = m at *
      generalize hv : Pl.wid m = v at *
      have HV := Lib.hid hv
      clear hv
      by_cases h1 : v < j
      · rw [if_pos (Or.inl h1)] at hr
        obtain ⟨rfl, rfl, rfl⟩ : 0 = n ∧ 0 = z ∧ 3 = e := by simpa using hr
        clear hr
        go_wp2_with (refine (width_any m _ hb).mono ?_; rintro e w' ⟨rfl, rfl⟩; rw [HV.out])
        go_ret3
        exact ⟨rfl, rfl⟩
      · by_cases h2 : 9223372036854775695 < m
        · rw [if_pos (Or.inr h2)] at hr
          obtain ⟨rfl, rfl, rfl⟩ : 0 = n ∧ 0 = z ∧ 3 = e := by simpa using hr
          clear hr
          go_wp2_with (refine (width_any m _ hb).mono ?_; rintro e w' ⟨rfl, rfl⟩; rw [HV.out])
          go_ret3
          exact ⟨rfl, rfl⟩
        · rw [if_neg (by omega)] at hr
          obtain ⟨rfl, rfl, rfl⟩ : (m : Int) + 112 = n ∧ 1 + (j : Int) = z ∧ 0 = e := by simpa using hr
          clear hr
          go_wp2_with (refine (width_any m _ hb).mono ?_; rintro e w' ⟨rfl, rfl⟩; rw [HV.out])
          go_ret3
          exact ⟨rfl, rfl⟩
theorem readWide_any (s : ByteArray) (f : Nat) (w : World) (hf : f < 256) (h0 : 0 < s.size) (hsz : s.size ≤ 9223372036854775807) (ha : 240 ≤ s[0].toNat ^^^ f) (n z e : Int) (hr : Pl.rdWide s[0] s.data.toList.tail f = (n, z, e)) :
    Calls Try.prog 66 #[.string s, .int .u8 f] w fun e' w' => e' = .returned (.tuple #[.int .i64 n, .int .i64 z, .int .i64 e]) ∧ w = w' := by
  have hx := u8_xor_nat s[0].toNat f s[0].toNat_lt hf
  have hlt := Pl.xor_lt s[0] f hf
  have hlen : s.data.toList.tail.length = s.size - 1 := by simp
  unfold Pl.rdWide at hr
  rw [hlen] at hr
  generalize s[0].toNat ^^^ f = a at *
  by_cases h1 : 247 < a
  · rw [if_pos h1] at hr
    obtain ⟨rfl, rfl, rfl⟩ : 0 = n ∧ 0 = z ∧ 3 = e := by simpa using hr
    exact readWide_far s f a w h0 hx h1 hlt
  · rw [if_neg h1] at hr
    obtain ⟨k, rfl⟩ : ∃ k, a = k + 239 := ⟨a - 239, by omega⟩
    rw [Nat.add_sub_cancel] at hr
    have hx' : bits .xor .u8 (s[0].toNat : Int) (f : Int) = (k : Int) + 239 := by rw [hx]; omega
    by_cases h2 : s.size - 1 < k
    · rw [if_pos h2] at hr
      obtain ⟨rfl, rfl, rfl⟩ : 0 = n ∧ 0 = z ∧ 2 = e := by simpa using hr
      exact readWide_short s f k w h0 hsz hx' (by omega) (by omega)
    · rw [if_neg h2] at hr
      refine readWide_loop s f k w hf h0 hsz hx' (by omega) (by omega) (by omega) n z e ?_
      rw [← hr, show ((k + 239 : Nat) : Int) - 238 = 1 + (k : Int) from by omega]

theorem rdNum_cons (s : ByteArray) (h0 : 0 < s.size) : Pl.rdNum s.data.toList = (if s[0].toNat ^^^ Pl.flipOf s[0] < 240 then Pl.back (Pl.flipOf s[0]) (((s[0].toNat ^^^ Pl.flipOf s[0] : Nat) : Int) - 128, 1, 0)
    else Pl.back (Pl.flipOf s[0]) (Pl.rdWide s[0] s.data.toList.tail (Pl.flipOf s[0]))) := by
  have hl : 0 < s.data.toList.length := by simpa using h0
  have h : s.data.toList = s[0] :: s.data.toList.tail := by
    rw [← List.cons_head_tail (List.ne_nil_of_length_pos hl)]
    congr 1
    rw [List.head_eq_getElem]
    rfl
  conv => lhs; rw [h]
  rfl

theorem empty_true (s : ByteArray) (h : s.size = 0) : s.toList.isEmpty = true := by
  rw [ByteArray.toList_eq]
  have : s.data.toList.length = 0 := by simpa using h
  simpa using List.length_eq_zero_iff.1 this
theorem empty_false (s : ByteArray) (h : 0 < s.size) : s.toList.isEmpty = false := by
  rw [ByteArray.toList_eq]
  have h2 : 0 < s.data.toList.length := by simpa using h
  cases hl : s.data.toList with
  | nil => rw [hl] at h2; simp at h2
  | cons c t => rfl
/-- What wide numbers are bounded by. -/
theorem rdWide_bd (c : UInt8) (t : List UInt8) (f : Nat) (n z e : Int) (h : Pl.rdWide c t f = (n, z, e)) (hc : c.toNat ^^^ f < 256) (hc2 : 240 ≤ c.toNat ^^^ f) :
    (0 ≤ n ∧ n ≤ 9223372036854775807) ∧ (0 ≤ z ∧ z ≤ t.length + 1) ∧ (e = 0 ∨ e = 2 ∨ e = 3) ∧ (e ≠ 0 → n = 0 ∧ z = 0) := by
  unfold Pl.rdWide at h
  generalize Pl.wid (Pl.val f (List.take ((c.toNat ^^^ f) - 239) t) 0) = v at *
  generalize Pl.val f (List.take ((c.toNat ^^^ f) - 239) t) 0 = m at *
  generalize c.toNat ^^^ f = a at *
  by_cases h1 : 247 < a
  · rw [if_pos h1] at h
    obtain ⟨rfl, rfl, rfl⟩ : 0 = n ∧ 0 = z ∧ 3 = e := by simpa using h
    omega
  · rw [if_neg h1] at h
    by_cases h2 : t.length < a - 239
    · rw [if_pos h2] at h
      obtain ⟨rfl, rfl, rfl⟩ : 0 = n ∧ 0 = z ∧ 2 = e := by simpa using h
      omega
    · rw [if_neg h2] at h
      by_cases h3 : v < a - 239 ∨ 9223372036854775695 < m
      · rw [if_pos h3] at h
        obtain ⟨rfl, rfl, rfl⟩ : 0 = n ∧ 0 = z ∧ 3 = e := by simpa using h
        omega
      · rw [if_neg h3] at h
        obtain ⟨rfl, rfl, rfl⟩ : (m : Int) + 112 = n ∧ (a : Int) - 238 = z ∧ 0 = e := by simpa using h
        omega

set_option maxRecDepth 100000 in
set_option maxHeartbeats 400000 in
theorem readNum_empty (s : ByteArray) (w : World) (h : s.size = 0) :
    Calls Try.prog 64 #[.string s] w fun e' w' => e' = .returned (.tuple #[.int .i64 0, .int .i64 0, .int .i64 2]) ∧ w = w' := by
  have h1 := empty_true s h
  clear h
  go_enter Try.func64, Try.ntmps64
  go_wp2_with fail
  go_ret3
  exact ⟨rfl, rfl⟩
set_option maxRecDepth 100000 in
set_option maxHeartbeats 400000 in
theorem readNum_near (s : ByteArray) (w : World) (h0 : 0 < s.size) (hd : 128 ≤ s[0].toNat) (hd2 : s[0].toNat < 240) :
    Calls Try.prog 64 #[.string s] w fun e' w' => e' = .returned (.tuple #[.int .i64 ((s[0].toNat : Int) - 128), .int .i64 1, .int .i64 0]) ∧ w = w' := by
  have hx : bits .xor .u8 (s[0].toNat : Int) 0 = (s[0].toNat : Int) := by
    have := u8_xor_nat s[0].toNat 0 s[0].toNat_lt (by omega)
    simpa using this
  have h1 := empty_false s h0
  go_enter Try.func64, Try.ntmps64
  go_wp2_with fail
  go_ret3
  exact ⟨rfl, rfl⟩
set_option maxRecDepth 100000 in
set_option maxHeartbeats 400000 in
theorem readNum_wide0 (s : ByteArray) (w : World) (h0 : 0 < s.size) (hsz : s.size ≤ 9223372036854775807) (hd : 240 ≤ s[0].toNat) (n z e : Int) (hr : Pl.rdWide s[0] s.data.toList.tail 0 = (n, z, e)) :
    Calls Try.prog 64 #[.string s] w fun e' w' => e' = .returned (.tuple #[.int .i64 n, .int .i64 z, .int .i64 e]) ∧ w = w' := by
  have hx0 : s[0].toNat ^^^ 0 = s[0].toNat := Nat.xor_zero _
  have hc := readWide_any s 0 w (by omega) h0 hsz (by rw [hx0]; exact hd) n z e hr
  have hbd := rdWide_bd _ _ _ _ _ _ hr (Pl.xor_lt _ _ (by omega)) (by rw [hx0]; exact hd)
  have hx : bits .xor .u8 (s[0].toNat : Int) 0 = (s[0].toNat : Int) := by
    have := u8_xor_nat s[0].toNat 0 s[0].toNat_lt (by omega)
    simpa using this
  have h1 := empty_false s h0
  have HC := Lib.hid hc
  clear hr hx0 hc
  obtain ⟨⟨b1, b2⟩, _, _, _⟩ := hbd
  have hu : s[0].toNat < 256 := s[0].toNat_lt
  go_enter Try.func64, Try.ntmps64
  by_cases he : e = 0
  · subst he
    go_wp2_with (refine HC.out.mono ?_; rintro e w' ⟨rfl, rfl⟩)
    go_ret3
    exact ⟨rfl, rfl⟩
  · have he' : (e == 0) = false := by simpa using he
    clear he
    go_wp2_with (refine HC.out.mono ?_; rintro e w' ⟨rfl, rfl⟩)
    go_ret3
    exact ⟨rfl, rfl⟩
set_option maxRecDepth 100000 in
set_option maxHeartbeats 400000 in
theorem readNum_nearM (s : ByteArray) (a : Nat) (w : World) (h0 : 0 < s.size) (hx : bits .xor .u8 (s[0].toNat : Int) 255 = (a : Int)) (hd : s[0].toNat < 128) (ha : 128 ≤ a) (ha2 : a < 240) :
    Calls Try.prog 64 #[.string s] w fun e' w' => e' = .returned (.tuple #[.int .i64 (-((a : Int) - 128) - 1), .int .i64 1, .int .i64 0]) ∧ w = w' := by
  have h1 := empty_false s h0
  have hn : bits .xor .i64 (-1) ((a : Int) - 128) = -((a : Int) - 128) - 1 := by
    have := i64_not (a - 128) (by omega)
    rw [show ((a - 128 : Nat) : Int) = (a : Int) - 128 from by omega] at this
    rw [this]; omega
  have HN := Lib.hid hn
  clear hn
  go_enter Try.func64, Try.ntmps64
  go_wp2_with fail
  rw [HN.out]
  go_ret3
  exact ⟨rfl, rfl⟩
set_option maxRecDepth 100000 in
set_option maxHeartbeats 400000 in
theorem readNum_wideM (s : ByteArray) (a : Nat) (w : World) (h0 : 0 < s.size) (hsz : s.size ≤ 9223372036854775807) (hxa : s[0].toNat ^^^ 255 = a) (hd : s[0].toNat < 128) (ha : 240 ≤ a) (n z e : Int) (hr : Pl.rdWide s[0] s.data.toList.tail 255 = (n, z, e)) :
    Calls Try.prog 64 #[.string s] w fun e' w' => e' = .returned (.tuple #[.int .i64 (if e = 0 then -n - 1 else n), .int .i64 z, .int .i64 e]) ∧ w = w' := by
  have hc := readWide_any s 255 w (by omega) h0 hsz (by rw [hxa]; exact ha) n z e hr
  have hlt := Pl.xor_lt s[0] 255 (by omega)
  have hbd := rdWide_bd _ _ _ _ _ _ hr (Pl.xor_lt _ _ (by omega)) (by rw [hxa]; exact ha)
  have hx : bits .xor .u8 (s[0].toNat : Int) 255 = (a : Int) := by
    have := u8_xor_nat s[0].toNat 255 s[0].toNat_lt (by omega)
    rw [hxa] at this
    exact this
  rw [hxa] at hlt
  have h1 := empty_false s h0
  have HC := Lib.hid hc
  clear hr hxa hc
  obtain ⟨⟨b1, b2⟩, _, _, _⟩ := hbd
  by_cases he : e = 0
  · subst he
    rw [if_pos rfl]
    have hn : bits .xor .i64 (-1) n = -n - 1 := by
      obtain ⟨m, rfl⟩ := Int.eq_ofNat_of_zero_le b1
      rw [i64_not m (by omega)]; omega
    have HN := Lib.hid hn
    clear hn
    go_enter Try.func64, Try.ntmps64
    go_wp2_with (refine HC.out.mono ?_; rintro e w' ⟨rfl, rfl⟩)
    rw [HN.out]
    go_ret3
    exact ⟨rfl, rfl⟩
  · have he' : (e == 0) = false := by simpa using he
    rw [if_neg he]
    clear he
    go_enter Try.func64, Try.ntmps64
    go_wp2_with (refine HC.out.mono ?_; rintro e w' ⟨rfl, rfl⟩)
    go_ret3
    exact ⟨rfl, rfl⟩

/-- What readNum answers is what the plain function says. -/
theorem readNum_any (s : ByteArray) (w : World) (hsz : s.size ≤ 9223372036854775807) (n z e : Int) (hr : Pl.rdNum s.data.toList = (n, z, e)) :
    Calls Try.prog 64 #[.string s] w fun e' w' => e' = .returned (.tuple #[.int .i64 n, .int .i64 z, .int .i64 e]) ∧ w = w' := by
  by_cases h0 : s.size = 0
  · have : s.data.toList = [] := by
      have : s.data.toList.length = 0 := by simpa using h0
      exact List.length_eq_zero_iff.1 this
    rw [this] at hr
    obtain ⟨rfl, rfl, rfl⟩ : 0 = n ∧ 0 = z ∧ 2 = e := by simpa [Pl.rdNum] using hr
    exact readNum_empty s w h0
  · have h0 : 0 < s.size := by omega
    rw [rdNum_cons s h0] at hr
    have hu : s[0].toNat < 256 := s[0].toNat_lt
    unfold Pl.flipOf at hr
    by_cases hd : s[0].toNat < 128
    · rw [if_pos hd] at hr
      have hlt := Pl.xor_lt s[0] 255 (by omega)
      have hge : 128 ≤ s[0].toNat ^^^ 255 := by
        have : ∀ x : Fin 128, 128 ≤ x.val ^^^ 255 := by decide +kernel
        exact this ⟨_, hd⟩
      have hx := u8_xor_nat s[0].toNat 255 hu (by omega)
      obtain ⟨a, ha⟩ : ∃ a, s[0].toNat ^^^ 255 = a := ⟨_, rfl⟩
      rw [ha] at hr hlt hge hx
      by_cases h1 : a < 240
      · rw [if_pos h1] at hr
        obtain ⟨rfl, rfl, rfl⟩ : -((a : Int) - 128) - 1 = n ∧ 1 = z ∧ 0 = e := by simpa [Pl.back] using hr
        exact readNum_nearM s a w h0 hx hd hge h1
      · rw [if_neg h1] at hr
        obtain ⟨n', z', e', hw⟩ : ∃ n z e, Pl.rdWide s[0] s.data.toList.tail 255 = (n, z, e) := ⟨_, _, _, rfl⟩
        rw [hw] at hr
        have := readNum_wideM s a w h0 hsz ha hd (by omega) n' z' e' hw
        have h3 : (if e' = 0 then -n' - 1 else n') = n ∧ z' = z ∧ e' = e := by
          unfold Pl.back at hr
          by_cases he : e' = 0
          · rw [if_pos ⟨he, by omega⟩] at hr
            rw [if_pos he]
            simpa using hr
          · rw [if_neg (fun h => he h.1)] at hr
            rw [if_neg he]
            simpa using hr
        obtain ⟨rfl, rfl, rfl⟩ := h3
        exact this
    · rw [if_neg hd, Nat.xor_zero] at hr
      by_cases h1 : s[0].toNat < 240
      · rw [if_pos h1] at hr
        obtain ⟨rfl, rfl, rfl⟩ : (s[0].toNat : Int) - 128 = n ∧ 1 = z ∧ 0 = e := by simpa [Pl.back] using hr
        exact readNum_near s w h0 (by omega) h1
      · rw [if_neg h1] at hr
        have h3 : Pl.rdWide s[0] s.data.toList.tail 0 = (n, z, e) := by simpa [Pl.back] using hr
        exact readNum_wide0 s w h0 hsz (by omega) n z e h3

/-- The bounds of what is read. -/
theorem rdNum_bd (l : List UInt8) (n z e : Int) (h : Pl.rdNum l = (n, z, e)) :
    (-9223372036854775808 ≤ n ∧ n ≤ 9223372036854775807) ∧ (0 ≤ z ∧ z ≤ l.length) ∧ (e = 0 ∨ e = 2 ∨ e = 3) ∧ (e ≠ 0 → n = 0 ∧ z = 0) := by
  cases l with
  | nil =>
    obtain ⟨rfl, rfl, rfl⟩ : 0 = n ∧ 0 = z ∧ 2 = e := by simpa [Pl.rdNum] using h
    exact ⟨by omega, by simp, by omega, by omega⟩
  | cons c t =>
    have hf : Pl.flipOf c < 256 := by unfold Pl.flipOf; split <;> omega
    have hlt := Pl.xor_lt c _ hf
    have hge : 128 ≤ c.toNat ^^^ Pl.flipOf c := by
      have hu := c.toNat_lt
      unfold Pl.flipOf
      split
      · rename_i hd
        have : ∀ x : Fin 128, 128 ≤ x.val ^^^ 255 := by decide +kernel
        exact this ⟨_, hd⟩
      · rw [Nat.xor_zero]; omega
    simp only [Pl.rdNum] at h
    simp only [List.length_cons]
    by_cases h1 : c.toNat ^^^ Pl.flipOf c < 240
    · rw [if_pos h1] at h
      generalize c.toNat ^^^ Pl.flipOf c = a at *
      unfold Pl.back at h
      split at h
      · obtain ⟨rfl, rfl, rfl⟩ : -((a : Int) - 128) - 1 = n ∧ 1 = z ∧ 0 = e := by simpa using h
        omega
      · obtain ⟨rfl, rfl, rfl⟩ : (a : Int) - 128 = n ∧ 1 = z ∧ 0 = e := by simpa using h
        omega
    · rw [if_neg h1] at h
      obtain ⟨n', z', e', hw⟩ : ∃ n z e, Pl.rdWide c t (Pl.flipOf c) = (n, z, e) := ⟨_, _, _, rfl⟩
      have hb := rdWide_bd _ _ _ _ _ _ hw hlt (by omega)
      rw [hw] at h
      unfold Pl.back at h
      split at h
      · obtain ⟨rfl, rfl, rfl⟩ : -n' - 1 = n ∧ z' = z ∧ e' = e := by simpa using h
        rename_i h0
        have : e' = 0 := h0.1
        omega
      · obtain ⟨rfl, rfl, rfl⟩ : n' = n ∧ z' = z ∧ e' = e := by simpa using h
        omega

end Go.Proofs.Ytdjiknakbldggaa

/-
  What the readers of texts and blocks answer, call by call, as plain functions of their arguments.
-/
namespace Go.Proofs.Ytdjiknakbldggaa
open Go.RowKit

theorem Try.infoB : (Try.prog.info? 5).map (fun i => (i.zero, i.size, i.bytes)) = some (some (.int .u8 0), 1, 1) := by kernel_rfl

theorem ret_sii {s1 s2 : ByteArray} {a b c d : Int} (h1 : s1 = s2) (h2 : a = b) (h3 : c = d) : Ending.returned (.tuple #[.string s1, .int .i64 a, .int .i64 c]) = Ending.returned (.tuple #[.string s2, .int .i64 b, .int .i64 d]) := by rw [h1, h2, h3]
theorem mk_of {s : ByteArray} {l : List UInt8} (h : s.data.toList = l) : s = ⟨l.toArray⟩ := by
  subst h
  cases s
  simp
theorem cut_mk (s : ByteArray) (y n : Nat) : s.extract y (y + n) = ⟨((s.data.toList.drop y).take n).toArray⟩ := by
  apply mk_of
  rw [Lib.extract_data, Nat.add_sub_cancel_left]

/-- Bytes as cells. -/
def bytesV (l : List UInt8) : List Value := l.map (fun c => .int .u8 (c.toNat : Int))
theorem bytesV_snoc (l : List UInt8) (c : UInt8) : bytesV l ++ [.int .u8 (c.toNat : Int)] = bytesV (l ++ [c]) := by simp [bytesV]
theorem bytesV_length (l : List UInt8) : (bytesV l).length = l.length := by simp [bytesV]

/-- The slice v is the call's own, from block B on, and holds these bytes. -/
def OwnB (w : World) (B : Nat) (v : Value) (l : List UInt8) : Prop := w.ownsRow B 5 1 v l.length (bytesV l)

theorem own_conv {w : World} {B : Nat} {v : Value} {l : List UInt8} (h : OwnB w B v l) :
    (convert 79 9 v).run Try.prog w = .ok (.string ⟨l.toArray⟩) w := by
  have hown : w.ownsRow B 5 1 v l.length (bytesV l) := h
  rcases h.2 with ⟨rfl, h0⟩ | ⟨g, cap, cur, rfl, hg, hh, hnc, hcp, hcs, htake⟩
  · obtain rfl : l = [] := List.length_eq_zero_iff.1 h0
    rw [run_convert_bytes_string w 79 9 5 none 0 0 Try.underlying79 Try.underlying5 Try.underlying9]
    simp [Conv.bytesToString]
    rfl
  · have hcells : ∀ j (hj : j < l.length), w.cell? ((⟨g, 0, none⟩ : Addr).add j) = some (.int .u8 (l[j].toNat : Int)) := fun j hj => by
      rw [Addr.add_lit, Nat.zero_add, hown.cellAt j (by omega)]
      simp [bytesV, hj]
    exact run_convert_bytes_back (P := Try.prog) w 79 9 5 ⟨g, 0, none⟩ cap l Try.underlying79 Try.underlying5 Try.underlying9 hcells

/-- Behind an append of one byte. -/
theorem own_push {w wr w1 : World} {B : Nat} {v v' : Value} {l : List UInt8} {c : UInt8} {o : Obj} (hB : B ≤ wr.heap.size) (h : OwnB wr B v l) (hb : Below B w wr)
    (h1 : w1.ownsRow B 5 1 v' (l.length + 1) (bytesV l ++ [.int .u8 (c.toNat : Int)])) (hg : (wr.alloc o).grownBy w1 v.ownBlock) :
    OwnB w1 B v' (l ++ [c]) ∧ Below B w w1 := by
  have hown : wr.ownsRow B 5 1 v l.length (bytesV l) := h
  refine ⟨?_, (hb.alloc hB o).grown hg (by simp; omega) (fun j hj => (hown.lt j hj).1)⟩
  unfold OwnB
  rw [bytesV_snoc] at h1
  simpa using h1

theorem drop_cons (s : ByteArray) (k : Nat) (h : k < s.size) : s.data.toList.drop k = s[k] :: s.data.toList.drop (k + 1) := by
  have hl : k < s.data.toList.length := by simpa using h
  rw [List.drop_eq_getElem_cons hl]
  rfl
theorem drop_all (s : ByteArray) (k : Nat) (h : s.size ≤ k) : s.data.toList.drop k = [] := by
  apply List.drop_of_length_le
  simpa using h
theorem rdText_byte (c : UInt8) (t out : List UInt8) (k : Nat) (h : 0 < c.toNat) : Pl.rdText (c :: t) out k = Pl.rdText t (out ++ [c]) (k + 1) := by
  have hc : c ≠ 0 := by intro e; subst e; simp at h
  rw [Pl.rdText]
  · intro e; exact fun h' => absurd e hc
  · intro d t' e; exact absurd e hc

theorem rdCount_bd (l : List UInt8) (n z e : Int) (h : Pl.rdCount l = (n, z, e)) :
    (0 ≤ n ∧ n ≤ 9223372036854775807) ∧ (0 ≤ z ∧ z ≤ l.length) ∧ (e = 0 ∨ e = 2 ∨ e = 3) ∧ (e ≠ 0 → n = 0 ∧ z = 0) := by
  obtain ⟨n', z', e', hw⟩ : ∃ n z e, Pl.rdNum l = (n, z, e) := ⟨_, _, _, rfl⟩
  have hb := rdNum_bd _ _ _ _ hw
  unfold Pl.rdCount at h
  rw [hw] at h
  by_cases hn : n' < 0
  · rw [if_pos hn] at h
    obtain ⟨rfl, rfl, rfl⟩ : 0 = n ∧ 0 = z ∧ 3 = e := by simpa using h
    exact ⟨by omega, by omega, by omega, by omega⟩
  · rw [if_neg hn] at h
    obtain ⟨rfl, rfl, rfl⟩ : n' = n ∧ z' = z ∧ e' = e := by simpa using h
    omega

end Go.Proofs.Ytdjiknakbldggaa

/-
  What the writers of numbers answer, call by call: the document's bytes.
-/
namespace Go.Proofs.Ytdjiknakbldggaa
open Go.RowKit

theorem be_succ (f k m : Nat) : Pl.be f (k + 1) m = UInt8.ofNat ((m / 256 ^ k % 256) ^^^ f) :: Pl.be f k m := rfl

theorem xb_eq (a f : Nat) (ha : a < 256) (hf : f < 256) : bits .xor .u8 (a : Int) (f : Int) = ((UInt8.ofNat (a ^^^ f)).toNat : Int) := by
  rw [u8_xor_nat a f ha hf]
  have : a ^^^ f < 256 := Nat.xor_lt_two_pow (n := 8) (by simpa using ha) (by simpa using hf)
  rw [UInt8.toNat_ofNat']
  omega

/-- A slice of the call's own comes back with these bytes; nothing below B has turned. -/
def OwnPost (B : Nat) (w0 : World) (l : List UInt8) (e : Ending) (w' : World) : Prop := ∃ v', e = .returned v' ∧ OwnB w' B v' l ∧ Below B w0 w'

theorem i64_notM (a : Nat) (ha : a < 9223372036854775808) : bits .xor .i64 (-1) (-1 - (a : Int)) = (a : Int) := by
  show IntKind.i64.wrap ((BitVec.ofInt 64 (-1) ^^^ BitVec.ofInt 64 (-1 - (a : Int))).toNat : Int) = _
  have h1 : BitVec.ofInt 64 (-1) = BitVec.allOnes 64 := by decide
  have h2 : BitVec.ofInt 64 (-1 - (a : Int)) = ~~~ (BitVec.ofInt 64 (a : Int)) := by
    apply BitVec.eq_of_toNat_eq
    rw [BitVec.toNat_not, BitVec.toNat_ofInt, ofInt_u64 a (by omega)]
    simp
    omega
  rw [h1, h2, BitVec.allOnes_xor, BitVec.not_not, ofInt_u64 a (by omega)]
  simp [IntKind.wrap, IntKind.bits, IntKind.signed]
  omega

set_option maxRecDepth 100000 in
set_option maxHeartbeats 1000000 in
theorem appendNum_near (w w0 : World) (B : Nat) (v : Value) (l : List UInt8) (a : Nat) (c : UInt8) (hown : OwnB w B v l) (hbel : Below B w0 w) (hB : B ≤ w.heap.size) (hl : l.length + 9 ≤ 140737488355328) (h1 : a < 112)
    (hx : bits .xor .u8 (128 + (a : Int)) 0 = (c.toNat : Int)) :
    Calls Try.prog 44 #[v, .int .i64 a] w (OwnPost B w0 (l ++ [c])) := by
  obtain ⟨i0, hi, hz0, hz1, hz2⟩ := info_parts Try.infoB
  have hown' : w.ownsRow B 5 1 v l.length (bytesV l) := hown
  go_enter Try.func44, Try.ntmps44
  go_wp2_with (at_builtin; refine wpList_append_own _ rfl _ _ 79 rfl B 5 i0 (.int .u8 0) 1 1 Try.underlying79 hi hz0 hz1 hz2 rfl (by decide) _ _ _ rfl (hown'.alloc _) ⟨w.heap.size, 0, none⟩ 1 1 [.int .u8 (c.toNat : Int)] rfl rfl ?c1 ?c2 ?c3 ?c4 ?c5 ?_)
  case c1 =>
    intro j u hj
    match j, hj with
    | 0, hj => simp at hj; subst hj; simp [Addr.add]
  case c2 => intro u hu; simp at hu; subst hu; rfl
  case c3 => unfold maxLen; omega
  case c4 => omega
  case c5 => simp; omega
  · intro v' w1 hown1 hgrow _
    have R := own_push hB hown hbel hown1 hgrow
    clear hown1 hgrow hown hown' hbel
    go_wp2
    go_ret
    exact ⟨_, rfl, R.1, R.2⟩
set_option maxRecDepth 100000 in
set_option maxHeartbeats 1000000 in
theorem appendNum_nearM (w w0 : World) (B : Nat) (v : Value) (l : List UInt8) (a : Nat) (c : UInt8) (hown : OwnB w B v l) (hbel : Below B w0 w) (hB : B ≤ w.heap.size) (hl : l.length + 9 ≤ 140737488355328) (h1 : a < 112)
    (hx : bits .xor .u8 (128 + (a : Int)) 255 = (c.toNat : Int)) :
    Calls Try.prog 44 #[v, .int .i64 (-1 - (a : Int))] w (OwnPost B w0 (l ++ [c])) := by
  obtain ⟨i0, hi, hz0, hz1, hz2⟩ := info_parts Try.infoB
  have hown' : w.ownsRow B 5 1 v l.length (bytesV l) := hown
  have hn := i64_notM a (by omega)
  have hsg : IntKind.i64.signed = true := rfl
  go_enter Try.func44, Try.ntmps44
  go_wp2_with (at_builtin; refine wpList_append_own _ rfl _ _ 79 rfl B 5 i0 (.int .u8 0) 1 1 Try.underlying79 hi hz0 hz1 hz2 rfl (by decide) _ _ _ rfl (hown'.alloc _) ⟨w.heap.size, 0, none⟩ 1 1 [.int .u8 (c.toNat : Int)] rfl rfl ?c1 ?c2 ?c3 ?c4 ?c5 ?_)
  case c1 =>
    intro j u hj
    match j, hj with
    | 0, hj => simp at hj; subst hj; simp [Addr.add]
  case c2 => intro u hu; simp at hu; subst hu; rfl
  case c3 => unfold maxLen; omega
  case c4 => omega
  case c5 => simp; omega
  · intro v' w1 hown1 hgrow _
    have R := own_push hB hown hbel hown1 hgrow
    clear hown1 hgrow hown hown' hbel
    go_wp2
    go_ret
    exact ⟨_, rfl, R.1, R.2⟩
theorem byte_at (m p f : Nat) (hf : f < 256) : bits .xor .u8 ((m : Int) / 2 ^ (8 * p) % 256) (f : Int) = ((UInt8.ofNat ((m / 256 ^ p % 256) ^^^ f)).toNat : Int) := by
  have e : (m : Int) / 2 ^ (8 * p) % 256 = ((m / 256 ^ p % 256 : Nat) : Int) := by
    rw [show (2 : Int) ^ (8 * p) = ((256 ^ p : Nat) : Int) from by rw [Int.pow_mul]; simp]
    rfl
  rw [e]
  exact xb_eq _ _ (by omega) hf

set_option maxRecDepth 100000 in
set_option maxHeartbeats 1000000 in
theorem appendNum_far (w w0 : World) (B : Nat) (v : Value) (l : List UInt8) (m k : Nat) (c : UInt8) (hown : OwnB w B v l) (hbel : Below B w0 w) (hB : B ≤ w.heap.size) (hl : l.length + 9 ≤ 140737488355328) (h1 : m ≤ 9223372036854775695) (hw : Pl.wid m = k)
    (hx : bits .xor .u8 (239 + (k : Int)) 0 = (c.toNat : Int)) :
    Calls Try.prog 44 #[v, .int .i64 ((m : Int) + 112)] w (OwnPost B w0 (l ++ c :: Pl.be 0 k m)) := by
  obtain ⟨i0, hi, hz0, hz1, hz2⟩ := info_parts Try.infoB
  have hown' : w.ownsRow B 5 1 v l.length (bytesV l) := hown
  obtain ⟨hk1, hk8⟩ := Pl.wid_le m
  rw [hw] at hk1 hk8
  have HW := Lib.hid hw
  clear hw
  go_enter Try.func44, Try.ntmps44
  go_wp2_with (first | (at_builtin; refine wpList_append_own _ rfl _ _ 79 rfl B 5 i0 (.int .u8 0) 1 1 Try.underlying79 hi hz0 hz1 hz2 rfl (by decide) _ _ _ rfl (hown'.alloc _) ⟨w.heap.size, 0, none⟩ 1 1 [.int .u8 (c.toNat : Int)] rfl rfl ?c1 ?c2 ?c3 ?c4 ?c5 ?_) | (go_at_call 54; refine (width_any m _ (by omega)).mono ?_; rintro e w' ⟨rfl, rfl⟩; rw [HW.out]))
  case c1 =>
    intro j u hj
    match j, hj with
    | 0, hj => simp at hj; subst hj; simp [Addr.add]
  case c2 => intro u hu; simp at hu; subst hu; rfl
  case c3 => unfold maxLen; omega
  case c4 => omega
  case c5 => simp; omega
  · intro v' w1 hown1 hgrow _
    have R := own_push hB hown hbel hown1 hgrow
    have hB1 : B ≤ w1.heap.size := by have := hgrow.size; simp at this; omega
    clear hown1 hgrow hown hown' hbel
    obtain ⟨R1, R2⟩ := R
    have hlen : (l ++ [c]).length = l.length + 1 := by simp
    go_wp2
    go_loopw [0, 8] (fun u i wr => ∃ (j : Nat) (x : Int) (acc : List UInt8), Hid (x = (j : Int) - 1) ∧ j ≤ k ∧ i = .int .i64 x ∧ Hid (acc ++ Pl.be 0 j m = l ++ c :: Pl.be 0 k m) ∧ acc.length + j ≤ l.length + 1 + k ∧ OwnB wr B u acc ∧ Below B w0 wr ∧ B ≤ wr.heap.size) (fun _ i _ => (intOf i + 1).toNat)
    case atStart => exact ⟨k, _, l ++ [c], rfl, Nat.le_refl _, rfl, by show _ = _; simp, by omega, R1, R2, hB1⟩
    case round =>
      clear R1 R2 hB1 hx hlen
      obtain ⟨j, x, acc, hxj, hj, rfl, hacc, hal, hown, hbel, hBr⟩ := hrel
      have hown' : wr.ownsRow B 5 1 u0 acc.length (bytesV acc) := hown
      rcases j with _ | p
      · obtain rfl : x = -1 := hxj.out
        clear hxj
        go_wp2
        go_ret
        have hacc' := hacc.out
        simp only [Pl.be, List.append_nil] at hacc'
        rw [← hacc']
        exact ⟨_, rfl, hown, hbel⟩
      · obtain rfl : x = (p : Int) := by have := hxj.out; omega
        clear hxj
        have hy : bits .xor .u8 ((m : Int) / 2 ^ (8 * p) % 256) 0 = ((UInt8.ofNat ((m / 256 ^ p % 256) ^^^ 0)).toNat : Int) := byte_at m p 0 (by omega)
        have hnx : Hid ((acc ++ [UInt8.ofNat ((m / 256 ^ p % 256) ^^^ 0)]) ++ Pl.be 0 p m = l ++ c :: Pl.be 0 k m) := by
          have h := hacc.out
          rw [be_succ] at h
          show _ = _
          rw [← h]
          simp
        clear hacc
        generalize UInt8.ofNat ((m / 256 ^ p % 256) ^^^ 0) = d at *
        go_wp2_with (at_builtin; refine wpList_append_own _ rfl _ _ 79 rfl B 5 i0 (.int .u8 0) 1 1 Try.underlying79 hi hz0 hz1 hz2 rfl (by decide) _ _ _ rfl (hown'.alloc _) ⟨wr.heap.size, 0, none⟩ 1 1 [.int .u8 (d.toNat : Int)] rfl rfl ?d1 ?d2 ?d3 ?d4 ?d5 ?_)
        case d1 =>
          intro j u hj
          match j, hj with
          | 0, hj => simp at hj; subst hj; simp [Addr.add]
        case d2 => intro u hu; simp at hu; subst hu; rfl
        case d3 => unfold maxLen; omega
        case d4 => omega
        case d5 => simp; omega
        · intro v2 w2 hown2 hgrow2 _
          have R := own_push hBr hown hbel hown2 hgrow2
          have hB2 : B ≤ w2.heap.size := by have := hgrow2.size; simp at this; omega
          clear hown2 hgrow2 hown hown' hbel hy
          go_wp2
          go_roundw
          case rel => exact ⟨p, _, _, rfl, by omega, by go_num, hnx, by simp; omega, R.1, R.2, hB2⟩
          case measure => simp [intOf]
set_option maxRecDepth 100000 in
set_option maxHeartbeats 1000000 in
theorem appendNum_farM (w w0 : World) (B : Nat) (v : Value) (l : List UInt8) (m k : Nat) (c : UInt8) (hown : OwnB w B v l) (hbel : Below B w0 w) (hB : B ≤ w.heap.size) (hl : l.length + 9 ≤ 140737488355328) (h1 : m ≤ 9223372036854775695) (hw : Pl.wid m = k)
    (hx : bits .xor .u8 (239 + (k : Int)) 255 = (c.toNat : Int)) :
    Calls Try.prog 44 #[v, .int .i64 (-1 - ((m : Int) + 112))] w (OwnPost B w0 (l ++ c :: Pl.be 255 k m)) := by
  obtain ⟨i0, hi, hz0, hz1, hz2⟩ := info_parts Try.infoB
  have hown' : w.ownsRow B 5 1 v l.length (bytesV l) := hown
  obtain ⟨hk1, hk8⟩ := Pl.wid_le m
  rw [hw] at hk1 hk8
  have HW := Lib.hid hw
  clear hw
  have hn := i64_notM (m + 112) (by omega)
  rw [show ((m + 112 : Nat) : Int) = (m : Int) + 112 from by omega] at hn
  have hsg : IntKind.i64.signed = true := rfl
  go_enter Try.func44, Try.ntmps44
  go_wp2_with (first | (at_builtin; refine wpList_append_own _ rfl _ _ 79 rfl B 5 i0 (.int .u8 0) 1 1 Try.underlying79 hi hz0 hz1 hz2 rfl (by decide) _ _ _ rfl (hown'.alloc _) ⟨w.heap.size, 0, none⟩ 1 1 [.int .u8 (c.toNat : Int)] rfl rfl ?c1 ?c2 ?c3 ?c4 ?c5 ?_) | (go_at_call 54; refine (width_any m _ (by omega)).mono ?_; rintro e w' ⟨rfl, rfl⟩; rw [HW.out]))
  case c1 =>
    intro j u hj
    match j, hj with
    | 0, hj => simp at hj; subst hj; simp [Addr.add]
  case c2 => intro u hu; simp at hu; subst hu; rfl
  case c3 => unfold maxLen; omega
  case c4 => omega
  case c5 => simp; omega
  · intro v' w1 hown1 hgrow _
    have R := own_push hB hown hbel hown1 hgrow
    have hB1 : B ≤ w1.heap.size := by have := hgrow.size; simp at this; omega
    clear hown1 hgrow hown hown' hbel
    obtain ⟨R1, R2⟩ := R
    have hlen : (l ++ [c]).length = l.length + 1 := by simp
    go_wp2
    go_loopw [0, 8] (fun u i wr => ∃ (j : Nat) (x : Int) (acc : List UInt8), Hid (x = (j : Int) - 1) ∧ j ≤ k ∧ i = .int .i64 x ∧ Hid (acc ++ Pl.be 255 j m = l ++ c :: Pl.be 255 k m) ∧ acc.length + j ≤ l.length + 1 + k ∧ OwnB wr B u acc ∧ Below B w0 wr ∧ B ≤ wr.heap.size) (fun _ i _ => (intOf i + 1).toNat)
    case atStart => exact ⟨k, _, l ++ [c], rfl, Nat.le_refl _, rfl, by show _ = _; simp, by omega, R1, R2, hB1⟩
    case round =>
      clear R1 R2 hB1 hx hlen
      obtain ⟨j, x, acc, hxj, hj, rfl, hacc, hal, hown, hbel, hBr⟩ := hrel
      have hown' : wr.ownsRow B 5 1 u0 acc.length (bytesV acc) := hown
      rcases j with _ | p
      · obtain rfl : x = -1 := hxj.out
        clear hxj
        go_wp2
        go_ret
        have hacc' := hacc.out
        simp only [Pl.be, List.append_nil] at hacc'
        rw [← hacc']
        exact ⟨_, rfl, hown, hbel⟩
      · obtain rfl : x = (p : Int) := by have := hxj.out; omega
        clear hxj
        have hy : bits .xor .u8 ((m : Int) / 2 ^ (8 * p) % 256) 255 = ((UInt8.ofNat ((m / 256 ^ p % 256) ^^^ 255)).toNat : Int) := byte_at m p 255 (by omega)
        have hnx : Hid ((acc ++ [UInt8.ofNat ((m / 256 ^ p % 256) ^^^ 255)]) ++ Pl.be 255 p m = l ++ c :: Pl.be 255 k m) := by
          have h := hacc.out
          rw [be_succ] at h
          show _ = _
          rw [← h]
          simp
        clear hacc
        generalize UInt8.ofNat ((m / 256 ^ p % 256) ^^^ 255) = d at *
        go_wp2_with (at_builtin; refine wpList_append_own _ rfl _ _ 79 rfl B 5 i0 (.int .u8 0) 1 1 Try.underlying79 hi hz0 hz1 hz2 rfl (by decide) _ _ _ rfl (hown'.alloc _) ⟨wr.heap.size, 0, none⟩ 1 1 [.int .u8 (d.toNat : Int)] rfl rfl ?d1 ?d2 ?d3 ?d4 ?d5 ?_)
        case d1 =>
          intro j u hj
          match j, hj with
          | 0, hj => simp at hj; subst hj; simp [Addr.add]
        case d2 => intro u hu; simp at hu; subst hu; rfl
        case d3 => unfold maxLen; omega
        case d4 => omega
        case d5 => simp; omega
        · intro v2 w2 hown2 hgrow2 _
          have R := own_push hBr hown hbel hown2 hgrow2
          have hB2 : B ≤ w2.heap.size := by have := hgrow2.size; simp at this; omega
          clear hown2 hgrow2 hown hown' hbel hy
          go_wp2
          go_roundw
          case rel => exact ⟨p, _, _, rfl, by omega, by go_num, hnx, by simp; omega, R.1, R.2, hB2⟩
          case measure => simp [intOf]

/-- What appendNum does: the document's bytes of the number stand behind the others. -/
theorem appendNum_any (w w0 : World) (B : Nat) (v : Value) (l : List UInt8) (n : Int) (hown : OwnB w B v l) (hbel : Below B w0 w) (hB : B ≤ w.heap.size) (hl : l.length + 9 ≤ 140737488355328) (h0 : -9223372036854775808 ≤ n) (h1 : n ≤ 9223372036854775807) :
    Calls Try.prog 44 #[v, .int .i64 n] w (OwnPost B w0 (l ++ Pl.numB n)) := by
  by_cases hn : n < 0
  · obtain ⟨a, rfl⟩ : ∃ a : Nat, n = -1 - (a : Int) := ⟨(-1 - n).toNat, by omega⟩
    have hm : Pl.mag (-1 - (a : Int)) = a := by unfold Pl.mag; rw [if_pos hn]; omega
    have hs : Pl.sgn (-1 - (a : Int)) = 255 := by unfold Pl.sgn; rw [if_pos hn]
    unfold Pl.numB
    rw [hm, hs]
    by_cases ha : a < 112
    · rw [if_pos ha]
      refine appendNum_nearM w w0 B v l a _ hown hbel hB hl ha ?_
      have := xb_eq (128 + a) 255 (by omega) (by omega)
      rw [← this]
      rfl
    · rw [if_neg ha]
      obtain ⟨m, rfl⟩ : ∃ m, a = m + 112 := ⟨a - 112, by omega⟩
      rw [Nat.add_sub_cancel]
      have hw8 := Pl.wid_le m
      have := appendNum_farM w w0 B v l m (Pl.wid m) (UInt8.ofNat ((239 + Pl.wid m) ^^^ 255)) hown hbel hB hl (by omega) rfl (by
        have := xb_eq (239 + Pl.wid m) 255 (by omega) (by omega)
        rw [← this]
        rfl)
      exact this
  · obtain ⟨a, rfl⟩ := Int.eq_ofNat_of_zero_le (show 0 ≤ n by omega)
    have hm : Pl.mag (a : Int) = a := by unfold Pl.mag; rw [if_neg hn]; omega
    have hs : Pl.sgn (a : Int) = 0 := by unfold Pl.sgn; rw [if_neg hn]
    unfold Pl.numB
    rw [hm, hs]
    by_cases ha : a < 112
    · rw [if_pos ha]
      refine appendNum_near w w0 B v l a _ hown hbel hB hl ha ?_
      have := xb_eq (128 + a) 0 (by omega) (by omega)
      rw [← this]
      rfl
    · rw [if_neg ha]
      obtain ⟨m, rfl⟩ : ∃ m, a = m + 112 := ⟨a - 112, by omega⟩
      rw [Nat.add_sub_cancel]
      have hw8 := Pl.wid_le m
      have := appendNum_far w w0 B v l m (Pl.wid m) (UInt8.ofNat ((239 + Pl.wid m) ^^^ 0)) hown hbel hB hl (by omega) rfl (by
        have := xb_eq (239 + Pl.wid m) 0 (by omega) (by omega)
        rw [← this]
        rfl)
      exact this

theorem numB_length (n : Int) : (Pl.numB n).length ≤ 9 := by
  have hbe : ∀ f k m, (Pl.be f k m).length = k := by
    intro f k m
    induction k with
    | zero => rfl
    | succ k ih => rw [be_succ, List.length_cons, ih]
  unfold Pl.numB
  split
  · simp
  · rw [List.length_cons, hbe]
    have := Pl.wid_le (Pl.mag n - 112)
    omega
theorem numsB_snoc (l : List Int) (k : Nat) (h : k < l.length) : Pl.numsB (l.take (k + 1)) = Pl.numsB (l.take k) ++ Pl.numB l[k] := by
  unfold Pl.numsB
  rw [List.take_succ_eq_append_getElem h, List.flatMap_append]
  simp
theorem numsB_length (l : List Int) : (Pl.numsB l).length ≤ 9 * l.length := by
  unfold Pl.numsB
  induction l with
  | nil => simp
  | cons n r ih =>
    rw [List.flatMap_cons, List.length_append, List.length_cons]
    have := numB_length n
    omega

set_option maxRecDepth 100000 in
set_option maxHeartbeats 1000000 in
/-- What Nums answers: the numbers' bytes, one behind the other. -/
theorem nums_any (w : World) (xs : List Int) (len cap b off : Nat) (hl : len * 9 + 9 ≤ 140737488355328) (hlen : xs.length = len) (hb : b < w.heap.size)
    (hc : ∀ j (h : j < xs.length), w.cell? ⟨b, off + j, none⟩ = some (.int .i64 xs[j])) (hwf : ∀ n ∈ xs, -9223372036854775808 ≤ n ∧ n ≤ 9223372036854775807) :
    Calls Try.prog 27 #[.slice (some ⟨b, off, none⟩) len cap] w fun e' w' => e' = .returned (.string ⟨(Pl.numsB xs).toArray⟩) ∧ Below w.heap.size w w' := by
  obtain ⟨i0, hi, hz0, hz1, hz2⟩ := info_parts Try.infoB
  have HL := Lib.hid hlen
  have hlen' : xs.length ≤ len ∧ len ≤ xs.length := by omega
  clear hlen
  have HW := Lib.hid hwf
  have HC := Lib.hid hc
  clear hwf hc
  go_enter Try.func27, Try.ntmps27
  go_wp2_with (at_make; refine wpList_make_own _ rfl _ _ 79 rfl w.heap.size 5 i0 (.int .u8 0) 1 Try.underlying79 hi hz0 hz1 .i64 .i64 _ len rfl rfl (by omega) (by rw [hz2]; omega) (by unfold maxLen; omega) (Nat.le_refl _) ?_; intro w0 hown0 hgrow0)
  have hB0 : w.heap.size ≤ w0.heap.size := hgrow0.size
  have hbel0 : Below w.heap.size w w0 := (Below.refl _ _).grown hgrow0 (Nat.le_refl _) (fun j hj => by cases hj)
  clear hgrow0
  go_loopw [3, 11] (fun u i wr => ∃ k : Nat, k ≤ len ∧ i = .int .i64 k ∧ OwnB wr w.heap.size u (Pl.numsB (xs.take k)) ∧ Below w.heap.size w wr ∧ w.heap.size ≤ wr.heap.size) (fun _ i _ => len - (intOf i).toNat)
  case atStart => exact ⟨0, Nat.zero_le _, rfl, hown0, hbel0, hB0⟩
  case round =>
    clear hown0 hbel0 hB0
    obtain ⟨k, hk, rfl, hown, hbel, hB⟩ := hrel
    by_cases hlt : k < len
    · have hkx : k < xs.length := by omega
      have hcell : wr.cell? ⟨b, off + k, none⟩ = some (.int .i64 xs[k]) := (hbel.cell (p := ⟨b, off + k, none⟩) hb).trans (HC.out k hkx)
      have hst : Hid (Pl.numsB (xs.take (k + 1)) = Pl.numsB (xs.take k) ++ Pl.numB xs[k]) := numsB_snoc xs k hkx
      have hln := numsB_length (xs.take k)
      have hln2 : (xs.take k).length ≤ k := List.length_take_le _ _
      have hw := HW.out xs[k] (List.getElem_mem hkx)
      have hcall := appendNum_any wr w w.heap.size u3 _ xs[k] hown hbel hB (by omega) hw.1 hw.2
      have HCALL := Lib.hid hcall
      clear hcall
      obtain ⟨hw1, hw2⟩ := hw
      go_wp2_with (go_at_call 44; refine HCALL.out.mono ?_; rintro e w1 ⟨v1, rfl, hown1, hbel1⟩)
      have hB1 : w.heap.size ≤ w1.heap.size := hbel1.size
      go_roundw
      case rel => exact ⟨k + 1, by omega, by go_num, by rw [hst.out]; exact hown1, hbel1, hB1⟩
      case measure => simp [intOf]; omega
    · obtain rfl : k = len := by omega
      have hcv := own_conv hown
      have hall : Hid (Pl.numsB (xs.take k) = Pl.numsB xs) := by
        show _ = _
        rw [List.take_of_length_le hlen'.1]
      go_wp2_with fail
      go_ret
      rw [hall.out]
      exact ⟨rfl, hbel⟩

set_option maxRecDepth 100000 in
set_option maxHeartbeats 1000000 in
/-- Of no numbers: no bytes. -/
theorem nums_none (w : World) (a : Option Addr) (cap : Nat) :
    Calls Try.prog 27 #[.slice a 0 cap] w fun e' w' => e' = .returned (.string ⟨#[]⟩) ∧ Below w.heap.size w w' := by
  obtain ⟨i0, hi, hz0, hz1, hz2⟩ := info_parts Try.infoB
  go_enter Try.func27, Try.ntmps27
  go_wp2_with (at_make; refine wpList_make_own _ rfl _ _ 79 rfl w.heap.size 5 i0 (.int .u8 0) 1 Try.underlying79 hi hz0 hz1 .i64 .i64 _ 0 rfl rfl (by omega) (by rw [hz2]; omega) (by unfold maxLen; omega) (Nat.le_refl _) ?_; intro w0 hown0 hgrow0)
  have hbel0 : Below w.heap.size w w0 := (Below.refl _ _).grown hgrow0 (Nat.le_refl _) (fun j hj => by cases hj)
  have hown0' : OwnB w0 w.heap.size (.slice (some ⟨w.heap.size, 0, none⟩) 0 0) [] := hown0
  have hcv := own_conv hown0'
  clear hgrow0 hown0
  refine wp_loop_rounds 1 ?_
  rw [rounds_succ]
  go_wp2
  go_ret
  exact ⟨rfl, hbel0⟩
end Go.Proofs.Ytdjiknakbldggaa

/-
  What the document's own answers for numbers are, call by call.
-/
namespace Go.Proofs.Ytdjiknakbldggaa
open Go.RowKit

/-- The bytes of a number by division. -/
theorem be_split (f k m : Nat) : Pl.be f (k + 1) m = Pl.be f k (m / 256) ++ [UInt8.ofNat ((m % 256) ^^^ f)] := by
  induction k with
  | zero => simp [Pl.be]
  | succ k ih =>
    rw [be_succ, ih, be_succ f k (m / 256), List.cons_append]
    congr 3
    rw [Nat.div_div_eq_div_mul, Nat.pow_succ, Nat.mul_comm]
theorem wid_step (m : Nat) (h : 256 ≤ m) (h2 : m < 18446744073709551616) : Pl.wid m = Pl.wid (m / 256) + 1 := by
  unfold Pl.wid
  repeat' split
  all_goals omega
theorem wid_one (m : Nat) (h : m < 256) : Pl.wid m = 1 := by
  unfold Pl.wid
  rw [if_pos h]

/-- A string comes back; nothing that was there has turned. -/
def StrPost (B : Nat) (w0 : World) (l : List UInt8) (e : Ending) (w' : World) : Prop := e = .returned (.string ⟨l.toArray⟩) ∧ Below B w0 w'

theorem one_conv (w : World) (c : UInt8) : (convert 79 9 (.slice (some ⟨w.heap.size, 0, none⟩) 1 1)).run Try.prog (w.alloc (.cells #[.int .u8 (c.toNat : Int)] 5)) = .ok (.string ⟨#[c]⟩) (w.alloc (.cells #[.int .u8 (c.toNat : Int)] 5)) := by
  have := run_convert_bytes_back (P := Try.prog) (w.alloc (.cells #[.int .u8 (c.toNat : Int)] 5)) 79 9 5 ⟨w.heap.size, 0, none⟩ 1 [c] Try.underlying79 Try.underlying5 Try.underlying9 (by
    intro j hj
    match j, hj with
    | 0, _ => rw [Addr.add_lit, World.cell?_alloc_at _ _ _ _ rfl]; rfl)
  exact this

theorem ret_str {s1 s2 : ByteArray} (h : s1 = s2) : Ending.returned (.string s1) = Ending.returned (.string s2) := by rw [h]
theorem append_mk (l : List UInt8) (c : UInt8) : (⟨l.toArray⟩ : ByteArray) ++ ⟨#[c]⟩ = ⟨(l ++ [c]).toArray⟩ := by
  apply mk_of
  rw [ByteArray.data_append]
  simp
theorem be_length (f k m : Nat) : (Pl.be f k m).length = k := by
  induction k with
  | zero => rfl
  | succ k ih => rw [be_succ, List.length_cons, ih]
theorem eq_0 (m : Nat) : (m : Int) % 256 = ((UInt8.ofNat ((m % 256) ^^^ 0)).toNat : Int) := by
  rw [Nat.xor_zero, UInt8.toNat_ofNat']
  omega
theorem not_byte : ∀ x : Fin 256, x.val ^^^ 255 = 255 - x.val := by decide +kernel
theorem eq_255 (m : Nat) : 255 - (m : Int) % 256 = ((UInt8.ofNat ((m % 256) ^^^ 255)).toNat : Int) := by
  have := not_byte ⟨m % 256, by omega⟩
  simp only at this
  rw [this, UInt8.toNat_ofNat']
  omega

set_option maxRecDepth 100000 in
set_option maxHeartbeats 1000000 in
theorem places_one (m : Nat) (c : UInt8) (w : World) (h : m < 256) (hq : (m : Int) % 256 = (c.toNat : Int)) :
    Calls Try.prog 49 #[.int .u64 m, .int .i64 0] w (StrPost w.heap.size w [c]) := by
  have hcv := one_conv w c
  go_enter Try.func49, Try.ntmps49
  go_wp2
  go_ret
  exact ⟨rfl, (Below.refl _ _).alloc (Nat.le_refl _) _⟩
set_option maxRecDepth 100000 in
set_option maxHeartbeats 1000000 in
theorem places_more (m : Nat) (c : UInt8) (l : List UInt8) (w : World) (h : 256 ≤ m) (h2 : m < 18446744073709551616) (hq : (m : Int) % 256 = (c.toNat : Int)) (hl : l.length ≤ 8)
    (hrec : Hid (∀ w, Calls Try.prog 49 #[.int .u64 (m / 256 : Nat), .int .i64 0] w (StrPost w.heap.size w l))) :
    Calls Try.prog 49 #[.int .u64 m, .int .i64 0] w (StrPost w.heap.size w (l ++ [c])) := by
  have hcv := one_conv w c
  have hlen : (⟨l.toArray⟩ : ByteArray).size ≤ 8 := by simpa [ByteArray.size] using hl
  go_enter Try.func49, Try.ntmps49
  go_wp2_with fail
  rw [show (m : Int) / 256 = ((m / 256 : Nat) : Int) from by omega]
  refine (hrec.out _).mono ?_
  rintro e w1 ⟨rfl, hb⟩
  have HB : Hid (Below w.heap.size w w1) := ((Below.refl _ _).alloc (Nat.le_refl _) _).trans (hb.mono (by simp))
  clear hb
  go_wp2_with fail
  go_ret
  exact ⟨ret_str (append_mk l c), HB.out⟩
/-- What places answers: the number's bytes. -/
theorem places_any : ∀ (k m : Nat), m < 256 ^ (k + 1) → k ≤ 7 → ∀ w, Calls Try.prog 49 #[.int .u64 m, .int .i64 0] w (StrPost w.heap.size w (Pl.be 0 (Pl.wid m) m)) := by
  intro k
  induction k with
  | zero =>
    intro m hm hk w
    have hm' : m < 256 := by simpa using hm
    rw [wid_one m hm']
    have := places_one m (UInt8.ofNat ((m % 256) ^^^ 0)) w hm' (eq_0 m)
    simpa [Pl.be] using this
  | succ k ih =>
    intro m hm hk w
    by_cases hs : m < 256
    · exact ih m (Nat.lt_of_lt_of_le hs (Nat.le_trans (by simp) (Nat.pow_le_pow_right (n := 256) (by omega) (show 1 ≤ k + 1 by omega)))) (by omega) w
    · have hm64 : m < 18446744073709551616 := Nat.lt_of_lt_of_le hm (Nat.le_trans (Nat.pow_le_pow_right (n := 256) (by omega) (show k + 1 + 1 ≤ 8 by omega)) (by simp))
      rw [wid_step m (by omega) hm64, be_split]
      refine places_more m _ _ w (by omega) hm64 (eq_0 m) ?_ ?_
      · rw [be_length]
        have := Pl.wid_le (m / 256)
        omega
      · intro w
        refine ih (m / 256) ?_ (by omega) w
        rw [Nat.pow_succ] at hm
        omega
set_option maxRecDepth 100000 in
set_option maxHeartbeats 1000000 in
theorem places_oneM (m : Nat) (c : UInt8) (w : World) (h : m < 256) (hq : 255 - (m : Int) % 256 = (c.toNat : Int)) :
    Calls Try.prog 49 #[.int .u64 m, .int .i64 255] w (StrPost w.heap.size w [c]) := by
  have hcv := one_conv w c
  go_enter Try.func49, Try.ntmps49
  go_wp2
  go_ret
  exact ⟨rfl, (Below.refl _ _).alloc (Nat.le_refl _) _⟩
set_option maxRecDepth 100000 in
set_option maxHeartbeats 1000000 in
theorem places_moreM (m : Nat) (c : UInt8) (l : List UInt8) (w : World) (h : 256 ≤ m) (h2 : m < 18446744073709551616) (hq : 255 - (m : Int) % 256 = (c.toNat : Int)) (hl : l.length ≤ 8)
    (hrec : Hid (∀ w, Calls Try.prog 49 #[.int .u64 (m / 256 : Nat), .int .i64 255] w (StrPost w.heap.size w l))) :
    Calls Try.prog 49 #[.int .u64 m, .int .i64 255] w (StrPost w.heap.size w (l ++ [c])) := by
  have hcv := one_conv w c
  have hlen : (⟨l.toArray⟩ : ByteArray).size ≤ 8 := by simpa [ByteArray.size] using hl
  go_enter Try.func49, Try.ntmps49
  go_wp2_with fail
  rw [show (m : Int) / 256 = ((m / 256 : Nat) : Int) from by omega]
  refine (hrec.out _).mono ?_
  rintro e w1 ⟨rfl, hb⟩
  have HB : Hid (Below w.heap.size w w1) := ((Below.refl _ _).alloc (Nat.le_refl _) _).trans (hb.mono (by simp))
  clear hb
  go_wp2_with fail
  go_ret
  exact ⟨ret_str (append_mk l c), HB.out⟩
/-- What places answers: the number's bytes. -/
theorem places_anyM : ∀ (k m : Nat), m < 256 ^ (k + 1) → k ≤ 7 → ∀ w, Calls Try.prog 49 #[.int .u64 m, .int .i64 255] w (StrPost w.heap.size w (Pl.be 255 (Pl.wid m) m)) := by
  intro k
  induction k with
  | zero =>
    intro m hm hk w
    have hm' : m < 256 := by simpa using hm
    rw [wid_one m hm']
    have := places_oneM m (UInt8.ofNat ((m % 256) ^^^ 255)) w hm' (eq_255 m)
    simpa [Pl.be] using this
  | succ k ih =>
    intro m hm hk w
    by_cases hs : m < 256
    · exact ih m (Nat.lt_of_lt_of_le hs (Nat.le_trans (by simp) (Nat.pow_le_pow_right (n := 256) (by omega) (show 1 ≤ k + 1 by omega)))) (by omega) w
    · have hm64 : m < 18446744073709551616 := Nat.lt_of_lt_of_le hm (Nat.le_trans (Nat.pow_le_pow_right (n := 256) (by omega) (show k + 1 + 1 ≤ 8 by omega)) (by simp))
      rw [wid_step m (by omega) hm64, be_split]
      refine places_moreM m _ _ w (by omega) hm64 (eq_255 m) ?_ ?_
      · rw [be_length]
        have := Pl.wid_le (m / 256)
        omega
      · intro w
        refine ih (m / 256) ?_ (by omega) w
        rw [Nat.pow_succ] at hm
        omega

theorem cons_mk (l : List UInt8) (c : UInt8) : (⟨#[c]⟩ : ByteArray) ++ ⟨l.toArray⟩ = ⟨(c :: l).toArray⟩ := by
  apply mk_of
  rw [ByteArray.data_append]
  simp

set_option maxRecDepth 100000 in
set_option maxHeartbeats 1000000 in
theorem numR_near (n : Int) (c : UInt8) (w : World) (h1 : -112 ≤ n) (h2 : n ≤ 111) (hq : 128 + n = (c.toNat : Int)) :
    Calls Try.prog 31 #[.int .i64 n] w (StrPost w.heap.size w [c]) := by
  have hcv := one_conv w c
  go_enter Try.func31, Try.ntmps31
  go_wp2
  go_ret
  exact ⟨rfl, (Below.refl _ _).alloc (Nat.le_refl _) _⟩
set_option maxRecDepth 100000 in
set_option maxHeartbeats 1000000 in
theorem numR_far (m k : Nat) (c : UInt8) (w : World) (h1 : m ≤ 9223372036854775695) (hk : Hid ((Pl.be 0 (Pl.wid m) m).length = k)) (hk8 : k ≤ 8) (hq : 239 + (k : Int) = (c.toNat : Int)) :
    Calls Try.prog 31 #[.int .i64 ((m : Int) + 112)] w (StrPost w.heap.size w (c :: Pl.be 0 (Pl.wid m) m)) := by
  have hp := places_any 7 m (Nat.lt_of_le_of_lt h1 (by simp)) (Nat.le_refl _) w
  generalize Pl.be 0 (Pl.wid m) m = l at *
  have HP := Lib.hid hp
  clear hp
  have hs : (⟨l.toArray⟩ : ByteArray).size = k := by simpa [ByteArray.size] using hk.out
  go_enter Try.func31, Try.ntmps31
  go_wp2_with fail
  refine HP.out.mono ?_
  rintro e w1 ⟨rfl, hb⟩
  have HB := Lib.hid hb
  clear hb
  have hcv := one_conv w1 c
  go_wp2_with fail
  go_ret
  exact ⟨ret_str (cons_mk l c), HB.out.alloc HB.out.size _⟩
set_option maxRecDepth 100000 in
set_option maxHeartbeats 1000000 in
theorem numR_farM (m k : Nat) (c : UInt8) (w : World) (h1 : m ≤ 9223372036854775695) (hk : Hid ((Pl.be 255 (Pl.wid m) m).length = k)) (hk8 : k ≤ 8) (hq : 16 - (k : Int) = (c.toNat : Int)) :
    Calls Try.prog 31 #[.int .i64 (-113 - (m : Int))] w (StrPost w.heap.size w (c :: Pl.be 255 (Pl.wid m) m)) := by
  have hp := places_anyM 7 m (Nat.lt_of_le_of_lt h1 (by simp)) (Nat.le_refl _) w
  generalize Pl.be 255 (Pl.wid m) m = l at *
  have HP := Lib.hid hp
  clear hp
  have hs : (⟨l.toArray⟩ : ByteArray).size = k := by simpa [ByteArray.size] using hk.out
  go_enter Try.func31, Try.ntmps31
  go_wp2_with fail
  rw [show -(-113 - (m : Int) + 113) = (m : Int) from by omega]
  refine HP.out.mono ?_
  rintro e w1 ⟨rfl, hb⟩
  have HB := Lib.hid hb
  clear hb
  have hcv := one_conv w1 c
  go_wp2_with fail
  go_ret
  exact ⟨ret_str (cons_mk l c), HB.out.alloc HB.out.size _⟩

/-- What the document's own number answers: the number's bytes. -/
theorem numR_any (n : Int) (w : World) (h0 : -9223372036854775808 ≤ n) (h1 : n ≤ 9223372036854775807) :
    Calls Try.prog 31 #[.int .i64 n] w (StrPost w.heap.size w (Pl.numB n)) := by
  by_cases hn : n < 0
  · obtain ⟨a, rfl⟩ : ∃ a : Nat, n = -1 - (a : Int) := ⟨(-1 - n).toNat, by omega⟩
    have hm : Pl.mag (-1 - (a : Int)) = a := by unfold Pl.mag; rw [if_pos hn]; omega
    have hs : Pl.sgn (-1 - (a : Int)) = 255 := by unfold Pl.sgn; rw [if_pos hn]
    unfold Pl.numB
    rw [hm, hs]
    by_cases ha : a < 112
    · rw [if_pos ha]
      refine numR_near _ _ w (by omega) (by omega) ?_
      have := not_byte ⟨128 + a, by omega⟩
      simp only at this
      rw [this, UInt8.toNat_ofNat']
      omega
    · rw [if_neg ha]
      obtain ⟨m, rfl⟩ : ∃ m, a = m + 112 := ⟨a - 112, by omega⟩
      rw [Nat.add_sub_cancel, show -1 - ((m + 112 : Nat) : Int) = -113 - (m : Int) from by omega]
      have hw8 := Pl.wid_le m
      refine numR_farM m (Pl.wid m) _ w (by omega) (be_length _ _ _) (by omega) ?_
      have := not_byte ⟨239 + Pl.wid m, by omega⟩
      simp only at this
      rw [this, UInt8.toNat_ofNat']
      omega
  · obtain ⟨a, rfl⟩ := Int.eq_ofNat_of_zero_le (show 0 ≤ n by omega)
    have hm : Pl.mag (a : Int) = a := by unfold Pl.mag; rw [if_neg hn]; omega
    have hs : Pl.sgn (a : Int) = 0 := by unfold Pl.sgn; rw [if_neg hn]
    unfold Pl.numB
    rw [hm, hs]
    by_cases ha : a < 112
    · rw [if_pos ha]
      refine numR_near _ _ w (by omega) (by omega) ?_
      rw [Nat.xor_zero, UInt8.toNat_ofNat']
      omega
    · rw [if_neg ha]
      obtain ⟨m, rfl⟩ : ∃ m, a = m + 112 := ⟨a - 112, by omega⟩
      rw [Nat.add_sub_cancel, show ((m + 112 : Nat) : Int) = (m : Int) + 112 from by omega]
      have hw8 := Pl.wid_le m
      refine numR_far m (Pl.wid m) _ w (by omega) (be_length _ _ _) (by omega) ?_
      rw [Nat.xor_zero, UInt8.toNat_ofNat']
      omega
end Go.Proofs.Ytdjiknakbldggaa

/-
  The order of bytes: those of numbers stand as the numbers, those of texts as the texts, whatever stands behind them.
-/
namespace Go.Proofs.Ytdjiknakbldggaa.Od

/-- How two rows of bytes stand. -/
def cp : List UInt8 → List UInt8 → Int
  | [], [] => 0
  | [], _ :: _ => -1
  | _ :: _, [] => 1
  | a :: x, b :: y => if a.toNat < b.toNat then -1 else if b.toNat < a.toNat then 1 else cp x y

/-- Two beginnings decide, whatever stands behind them. -/
def Dec (x y : List UInt8) (c : Int) : Prop := ∀ r q, cp (x ++ r) (y ++ q) = c
theorem Dec.cons {x y : List UInt8} {c : Int} (h : Dec x y c) (a : UInt8) : Dec (a :: x) (a :: y) c := fun r q => by
  have := h r q
  simp only [List.cons_append, cp]
  rw [if_neg (by omega), if_neg (by omega)]
  exact this
theorem lt_wid (m : Nat) (h : m < 18446744073709551616) : m < 256 ^ Pl.wid m := by
  unfold Pl.wid
  repeat' split
  all_goals (simp only [Nat.reducePow]; omega)

theorem mag_nn {a : Int} (h : ¬ a < 0) : Pl.mag a = a.toNat ∧ Pl.sgn a = 0 := by
  unfold Pl.mag Pl.sgn
  rw [if_neg h, if_neg h]
  exact ⟨rfl, rfl⟩
theorem mag_neg {a : Int} (h : a < 0) : Pl.mag a = (-a - 1).toNat ∧ Pl.sgn a = 255 := by
  unfold Pl.mag Pl.sgn
  rw [if_pos h, if_pos h]
  exact ⟨rfl, rfl⟩

/-- The head of a number's bytes, and the others. -/
theorem numB_near {a : Int} (h : Pl.mag a < 112) : Pl.numB a = [UInt8.ofNat ((128 + Pl.mag a) ^^^ Pl.sgn a)] := by
  unfold Pl.numB
  rw [if_pos h]
theorem numB_long {a : Int} (h : ¬ Pl.mag a < 112) : Pl.numB a = UInt8.ofNat ((239 + Pl.wid (Pl.mag a - 112)) ^^^ Pl.sgn a) :: Pl.be (Pl.sgn a) (Pl.wid (Pl.mag a - 112)) (Pl.mag a - 112) := by
  unfold Pl.numB
  rw [if_neg h]
theorem hd0 (x : Nat) (h : x < 256) : (UInt8.ofNat (x ^^^ 0)).toNat = x := by
  rw [Nat.xor_zero, UInt8.toNat_ofNat']; omega
theorem hd255 (x : Nat) (h : x < 256) : (UInt8.ofNat (x ^^^ 255)).toNat = 255 - x := by
  have := not_byte ⟨x, h⟩
  simp only at this
  rw [this, UInt8.toNat_ofNat']; omega

end Go.Proofs.Ytdjiknakbldggaa.Od

/-
  What a cursor's calls answer, and where they leave it.
-/
namespace Go.Proofs.Ytdjiknakbldggaa
open Go.RowKit

/-- A cursor in block b, with these bytes left. -/
def Cur (w : World) (b : Nat) (s : ByteArray) : Prop := w.cell? ⟨b, 0, none⟩ = some (.string s) ∧ w.frozen? ⟨b, 0, none⟩ = false

theorem Cur.lt {w : World} {b : Nat} {s : ByteArray} (h : Cur w b s) : b < w.heap.size := World.block_lt_of_cell? w _ h.1
theorem Cur.below {w w' : World} {B b : Nat} {s : ByteArray} (h : Cur w b s) (hb : Below B w w') (hB : b < B) : Cur w' b s :=
  ⟨(hb.cell (p := ⟨b, 0, none⟩) hB).trans h.1, (hb.frozen (p := ⟨b, 0, none⟩) hB).trans h.2⟩
theorem Cur.put {w : World} {b : Nat} {s : ByteArray} (h : Cur w b s) (r : ByteArray) : Cur (w.setCell ⟨b, 0, none⟩ (.string r)) b r :=
  ⟨World.cell?_setCell_same _ _ _ h.1, (World.frozen?_setCell _ _ _ _).trans h.2⟩

/-- What is left behind z bytes. -/
def rest (s : ByteArray) (z : Int) : ByteArray := s.extract z.toNat s.size
theorem rest_data (s : ByteArray) (z : Int) : (rest s z).data.toList = s.data.toList.drop z.toNat := by
  unfold rest
  rw [Lib.extract_data]
  apply List.take_of_length_le
  simp

set_option maxHeartbeats 400000 in
theorem at_any (s : ByteArray) (w : World) :
    Calls Try.prog 33 #[.string s] w fun e' w' => e' = .returned (.pointer (some ⟨w.heap.size, 0, none⟩)) ∧ w.alloc (.cells #[.string s] 101) = w' := by
  go_enter Try.func33, Try.ntmps33
  go_wp2
  go_ret
  exact ⟨rfl, rfl⟩
theorem at_cur (s : ByteArray) (w : World) (T : Nat) : Cur (w.alloc (.cells #[.string s] T)) w.heap.size s :=
  ⟨by rw [World.cell?_alloc_at _ _ _ _ rfl]; rfl, World.frozen?_alloc_at _ _ _ _ rfl⟩



theorem rdBlock_bd (l : List UInt8) (t : List UInt8) (z e : Int) (h : Pl.rdBlock l = (t, z, e)) : (0 ≤ z ∧ z ≤ l.length) ∧ (e = 0 ∨ e = 2 ∨ e = 3) ∧ (e ≠ 0 → t = [] ∧ z = 0) := by
  obtain ⟨n', z', e', hw⟩ : ∃ n z e, Pl.rdCount l = (n, z, e) := ⟨_, _, _, rfl⟩
  have hb := rdCount_bd _ _ _ _ hw
  unfold Pl.rdBlock at h
  rw [hw] at h
  by_cases he : e' = 0
  · subst he
    simp only [ne_eq, not_true, if_false] at h
    by_cases hlt : (l.length : Int) - z' < n'
    · rw [if_pos hlt] at h
      obtain ⟨rfl, rfl, rfl⟩ : [] = t ∧ 0 = z ∧ 2 = e := by simpa using h
      exact ⟨by omega, by omega, fun _ => ⟨rfl, rfl⟩⟩
    · rw [if_neg hlt] at h
      obtain ⟨_, rfl, rfl⟩ : _ = t ∧ z' + n' = z ∧ 0 = e := by simpa using h
      exact ⟨by omega, by omega, fun h => absurd rfl h⟩
  · rw [if_pos he] at h
    obtain ⟨rfl, rfl, rfl⟩ : [] = t ∧ 0 = z ∧ e' = e := by simpa using h
    exact ⟨by omega, hb.2.2.1, fun _ => ⟨rfl, rfl⟩⟩
theorem rdText_bd : ∀ (n : Nat) (l out : List UInt8) (k : Nat) (t : List UInt8) (z e : Int), l.length ≤ n → Pl.rdText l out k = (t, z, e) → (0 ≤ z ∧ z ≤ k + l.length) ∧ (e = 0 ∨ e = 2 ∨ e = 3) ∧ (e ≠ 0 → t = [] ∧ z = 0) := by
  intro n
  induction n with
  | zero =>
    intro l out k t z e hl h
    obtain rfl : l = [] := List.length_eq_zero_iff.1 (by omega)
    obtain ⟨rfl, rfl, rfl⟩ : [] = t ∧ 0 = z ∧ 2 = e := by simpa [Pl.rdText] using h
    exact ⟨by omega, by omega, fun _ => ⟨rfl, rfl⟩⟩
  | succ n ih =>
    intro l out k t z e hl h
    cases l with
    | nil =>
      obtain ⟨rfl, rfl, rfl⟩ : [] = t ∧ 0 = z ∧ 2 = e := by simpa [Pl.rdText] using h
      exact ⟨by omega, by omega, fun _ => ⟨rfl, rfl⟩⟩
    | cons c r =>
      simp only [List.length_cons] at hl ⊢
      by_cases hc : 0 < c.toNat
      · rw [rdText_byte c r out k hc] at h
        have := ih r _ _ t z e (by omega) h
        refine ⟨⟨this.1.1, ?_⟩, this.2⟩
        have := this.1.2
        omega
      · have hz : c = 0 := UInt8.toNat_inj.1 (by simp; omega)
        subst hz
        cases r with
        | nil =>
          obtain ⟨rfl, rfl, rfl⟩ : [] = t ∧ 0 = z ∧ 2 = e := by simpa [Pl.rdText] using h
          exact ⟨by omega, by omega, fun _ => ⟨rfl, rfl⟩⟩
        | cons d r =>
          simp only [Pl.rdText] at h
          simp only [List.length_cons] at hl ⊢
          by_cases h255 : d = 255
          · rw [if_pos h255] at h
            have := ih r _ _ t z e (by omega) h
            refine ⟨⟨this.1.1, ?_⟩, this.2⟩
            have := this.1.2
            omega
          · rw [if_neg h255] at h
            by_cases h1 : d = 1
            · rw [if_pos h1] at h
              obtain ⟨rfl, rfl, rfl⟩ : out = t ∧ (k : Int) + 2 = z ∧ 0 = e := by simpa using h
              exact ⟨by omega, by omega, fun h => absurd rfl h⟩
            · rw [if_neg h1] at h
              obtain ⟨rfl, rfl, rfl⟩ : [] = t ∧ 0 = z ∧ 3 = e := by simpa using h
              exact ⟨by omega, by omega, fun _ => ⟨rfl, rfl⟩⟩

end Go.Proofs.Ytdjiknakbldggaa

/-
  What was written is read back as it was; what is read are just the bytes in which it is written.
-/
namespace Go.Proofs.Ytdjiknakbldggaa.Iv
open Od

theorem xor_xor (x f : Nat) (hx : x < 256) (hf : f < 256) : (UInt8.ofNat (x ^^^ f)).toNat ^^^ f = x := by
  have h : x ^^^ f < 256 := Nat.xor_lt_two_pow (n := 8) (by simpa using hx) (by simpa using hf)
  rw [UInt8.toNat_ofNat', Nat.mod_eq_of_lt h, Nat.xor_assoc, Nat.xor_self, Nat.xor_zero]
theorem val_be (f : Nat) (hf : f < 256) : ∀ (k m acc : Nat), Pl.val f (Pl.be f k m) acc = acc * 256 ^ k + m % 256 ^ k := by
  intro k
  induction k with
  | zero => intro m acc; simp [Pl.be, Pl.val, Nat.mod_one]
  | succ k ih =>
    intro m acc
    rw [be_succ]
    simp only [Pl.val]
    rw [xor_xor _ f (by omega) hf, ih, Nat.pow_succ, Nat.mod_mul, Nat.add_mul, Nat.mul_comm (256 ^ k) 256, ← Nat.mul_assoc, Nat.mul_comm acc 256, Nat.mul_comm (m / 256 ^ k % 256) (256 ^ k)]
    omega

theorem xor_bk (b : UInt8) (f : Nat) (hf : f < 256) : UInt8.ofNat ((b.toNat ^^^ f) % 256 ^^^ f) = b := by
  have h := Pl.xor_lt b f hf
  rw [Nat.mod_eq_of_lt h, Nat.xor_assoc, Nat.xor_self, Nat.xor_zero]
  exact UInt8.ofNat_toNat
theorem be_vl (f : Nat) (hf : f < 256) (l : List UInt8) : Pl.be f l.length (Pl.val f l 0) = l := by
  suffices h : ∀ n (l : List UInt8), l.length = n → Pl.be f l.length (Pl.val f l 0) = l from h _ l rfl
  intro n
  induction n with
  | zero => intro l h; obtain rfl := List.length_eq_zero_iff.1 h; rfl
  | succ n ih =>
    intro l h
    obtain ⟨r, b, rfl⟩ : ∃ r b, l = r ++ [b] := ⟨l.dropLast, l.getLast (by intro e; subst e; simp at h), (List.dropLast_concat_getLast _).symm⟩
    have hr : r.length = n := by simpa using h
    have hb := Pl.xor_lt b f hf
    rw [Pl.val_snoc, List.length_append, List.length_singleton, be_split]
    rw [show (256 * Pl.val f r 0 + (b.toNat ^^^ f)) / 256 = Pl.val f r 0 from by omega, show (256 * Pl.val f r 0 + (b.toNat ^^^ f)) % 256 = (b.toNat ^^^ f) % 256 from by omega, ih r hr, xor_bk b f hf]

theorem wid_le_k (m k : Nat) (hk : 1 ≤ k) (h : m < 256 ^ k) : Pl.wid m ≤ k := by
  have h8 := Pl.wid_le m
  rcases Nat.lt_or_ge 8 k with h' | h'
  · omega
  · have hc : k = 1 ∨ k = 2 ∨ k = 3 ∨ k = 4 ∨ k = 5 ∨ k = 6 ∨ k = 7 ∨ k = 8 := by omega
    unfold Pl.wid
    rcases hc with rfl | rfl | rfl | rfl | rfl | rfl | rfl | rfl <;> simp only [Nat.reducePow] at h <;> repeat' split
    all_goals omega

theorem rdNum_near (c : UInt8) (r : List UInt8) (h : c.toNat ^^^ Pl.flipOf c < 240) : Pl.rdNum (c :: r) = Pl.back (Pl.flipOf c) (((c.toNat ^^^ Pl.flipOf c : Nat) : Int) - 128, 1, 0) := by
  simp only [Pl.rdNum]
  rw [if_pos h]
theorem rdNum_wide (c : UInt8) (r : List UInt8) (h : ¬ c.toNat ^^^ Pl.flipOf c < 240) : Pl.rdNum (c :: r) = Pl.back (Pl.flipOf c) (Pl.rdWide c r (Pl.flipOf c)) := by
  simp only [Pl.rdNum]
  rw [if_neg h]

theorem flip_of (x f : Nat) (hx : 128 ≤ x) (hx2 : x < 256) (hf : f = 0 ∨ f = 255) : Pl.flipOf (UInt8.ofNat (x ^^^ f)) = f ∧ (UInt8.ofNat (x ^^^ f)).toNat ^^^ f = x := by
  refine ⟨?_, xor_xor x f hx2 (by omega)⟩
  unfold Pl.flipOf
  rcases hf with rfl | rfl
  · rw [hd0 x hx2, if_neg (by omega)]
  · rw [hd255 x hx2, if_pos (by omega)]

/-- A number that was written is read as it was, whatever stands behind it. -/
theorem num_back (n : Int) (r : List UInt8) (h0 : -9223372036854775808 ≤ n) (h1 : n ≤ 9223372036854775807) : Pl.rdNum (Pl.numB n ++ r) = (n, ((Pl.numB n).length : Int), 0) := by
  have hsg : Pl.sgn n = 0 ∨ Pl.sgn n = 255 := by unfold Pl.sgn; split <;> omega
  have hw := Pl.wid_le (Pl.mag n - 112)
  have hb : Pl.back (Pl.sgn n) ((Pl.mag n : Int), 0, 0) = (n, 0, 0) := by
    by_cases hn : n < 0
    · obtain ⟨e1, e2⟩ := mag_neg hn
      rw [e2]
      unfold Pl.back
      rw [if_pos ⟨rfl, by omega⟩]
      simp only [Prod.mk.injEq, and_true]
      omega
    · obtain ⟨e1, e2⟩ := mag_nn hn
      rw [e2]
      unfold Pl.back
      rw [if_neg (by omega)]
      simp only [Prod.mk.injEq, and_true]
      omega
  have hb2 : ∀ z : Int, Pl.back (Pl.sgn n) ((Pl.mag n : Int), z, 0) = (n, z, 0) := by
    intro z
    unfold Pl.back at hb ⊢
    split at hb
    · rename_i hc
      rw [if_pos hc]
      simp only [Prod.mk.injEq, and_true] at hb ⊢
      exact hb
    · rename_i hc
      rw [if_neg hc]
      simp only [Prod.mk.injEq, and_true] at hb ⊢
      exact hb
  have hm : Pl.mag n ≤ 9223372036854775807 := by
    by_cases hn : n < 0
    · have := (mag_neg hn).1; omega
    · have := (mag_nn hn).1; omega
  by_cases hnear : Pl.mag n < 112
  · obtain ⟨f1, f2⟩ := flip_of (128 + Pl.mag n) (Pl.sgn n) (by omega) (by omega) hsg
    rw [numB_near hnear]
    show Pl.rdNum (_ :: r) = _
    rw [rdNum_near _ r (by rw [f1, f2]; omega), f1, f2]
    rw [show ((128 + Pl.mag n : Nat) : Int) - 128 = (Pl.mag n : Int) from by omega]
    exact hb2 1
  · obtain ⟨f1, f2⟩ := flip_of (239 + Pl.wid (Pl.mag n - 112)) (Pl.sgn n) (by omega) (by omega) hsg
    rw [numB_long hnear, List.cons_append, rdNum_wide _ _ (by rw [f1, f2]; omega), f1]
    have hl := lt_wid (Pl.mag n - 112) (by omega)
    unfold Pl.rdWide
    rw [f2, if_neg (by omega), if_neg (by rw [List.length_append, be_length]; omega)]
    rw [show 239 + Pl.wid (Pl.mag n - 112) - 239 = (Pl.be (Pl.sgn n) (Pl.wid (Pl.mag n - 112)) (Pl.mag n - 112)).length from by rw [be_length]; omega]
    rw [List.take_left, val_be (Pl.sgn n) (by omega), Nat.zero_mul, Nat.zero_add, Nat.mod_eq_of_lt hl, be_length, if_neg (by omega)]
    rw [show ((Pl.mag n - 112 : Nat) : Int) + 112 = (Pl.mag n : Int) from by omega, hb2]
    rw [List.length_cons, be_length]
    simp only [Prod.mk.injEq, and_true, true_and]
    omega

theorem count_back (n : Nat) (r : List UInt8) (h1 : n ≤ 9223372036854775807) : Pl.rdCount (Pl.numB n ++ r) = ((n : Int), ((Pl.numB n).length : Int), 0) := by
  unfold Pl.rdCount
  rw [num_back n r (by omega) (by omega), if_neg (by simp)]

/-- What was gone over are just the bytes in which it is written. -/
theorem num_one (l : List UInt8) (n z : Int) (h : Pl.rdNum l = (n, z, 0)) : Pl.numB n = l.take z.toNat := by
  cases l with
  | nil => simp [Pl.rdNum] at h
  | cons c t =>
    have hu := c.toNat_lt
    have hnb := not_byte ⟨c.toNat, hu⟩
    simp only at hnb
    have hfc : (c.toNat < 128 ∧ Pl.flipOf c = 255 ∧ c.toNat ^^^ Pl.flipOf c = 255 - c.toNat) ∨ (128 ≤ c.toNat ∧ Pl.flipOf c = 0 ∧ c.toNat ^^^ Pl.flipOf c = c.toNat) := by
      by_cases hd : c.toNat < 128
      · refine Or.inl ⟨hd, ?_⟩
        have : Pl.flipOf c = 255 := by unfold Pl.flipOf; rw [if_pos hd]
        rw [this]
        exact ⟨rfl, hnb⟩
      · refine Or.inr ⟨by omega, ?_⟩
        have : Pl.flipOf c = 0 := by unfold Pl.flipOf; rw [if_neg hd]
        rw [this]
        exact ⟨rfl, Nat.xor_zero _⟩
    by_cases hn : c.toNat ^^^ Pl.flipOf c < 240
    · rw [rdNum_near c t hn] at h
      rcases hfc with ⟨hd, hf, ha⟩ | ⟨hd, hf, ha⟩
      · rw [ha] at h hn
        rw [hf] at h
        unfold Pl.back at h
        rw [if_pos ⟨rfl, by omega⟩] at h
        obtain ⟨h1, h2⟩ : -(((255 - c.toNat : Nat) : Int) - 128) - 1 = n ∧ 1 = z := by simpa using h
        have hneg : n < 0 := by omega
        obtain ⟨e1, e2⟩ := mag_neg hneg
        rw [numB_near (by omega), e2, ← h2]
        show _ = [c]
        congr 1
        apply UInt8.toNat_inj.1
        rw [hd255 _ (by omega)]
        omega
      · rw [ha] at h hn
        rw [hf] at h
        obtain ⟨h1, h2⟩ : (c.toNat : Int) - 128 = n ∧ 1 = z := by simpa [Pl.back] using h
        have hneg : ¬ n < 0 := by omega
        obtain ⟨e1, e2⟩ := mag_nn hneg
        rw [numB_near (by omega), e2, ← h2]
        show _ = [c]
        congr 1
        apply UInt8.toNat_inj.1
        rw [hd0 _ (by omega)]
        omega
    · rw [rdNum_wide c t hn] at h
      have hf256 : Pl.flipOf c < 256 := by rcases hfc with ⟨_, hf, _⟩ | ⟨_, hf, _⟩ <;> omega
      obtain ⟨n', z', e', hw⟩ : ∃ n z e, Pl.rdWide c t (Pl.flipOf c) = (n, z, e) := ⟨_, _, _, rfl⟩
      rw [hw] at h
      have he : e' = 0 := by
        unfold Pl.back at h
        split at h
        · rename_i h0; exact h0.1
        · have : n' = n ∧ z' = z ∧ e' = 0 := by simpa using h
          exact this.2.2
      subst he
      have hz : z' = z := by
        unfold Pl.back at h
        split at h
        · have : -n' - 1 = n ∧ z' = z := by simpa using h
          exact this.2
        · have : n' = n ∧ z' = z := by simpa using h
          exact this.2
      unfold Pl.rdWide at hw
      generalize ha : c.toNat ^^^ Pl.flipOf c = a at *
      by_cases g1 : 247 < a
      · rw [if_pos g1] at hw; simp at hw
      · rw [if_neg g1] at hw
        by_cases g2 : t.length < a - 239
        · rw [if_pos g2] at hw; simp at hw
        · rw [if_neg g2] at hw
          by_cases g3 : Pl.wid (Pl.val (Pl.flipOf c) (t.take (a - 239)) 0) < a - 239 ∨ 9223372036854775695 < Pl.val (Pl.flipOf c) (t.take (a - 239)) 0
          · rw [if_pos g3] at hw; simp at hw
          · rw [if_neg g3] at hw
            obtain ⟨k, rfl⟩ : ∃ k, a = k + 239 := ⟨a - 239, by omega⟩
            rw [Nat.add_sub_cancel] at hw g2 g3
            have hlk : (t.take k).length = k := by rw [List.length_take]; omega
            have hbv := be_vl (Pl.flipOf c) hf256 (t.take k)
            have hvl := Pl.val_lt (Pl.flipOf c) hf256 (t.take k) 0 0 (by simp)
            rw [hlk] at hbv
            rw [hlk, Nat.zero_add] at hvl
            generalize Pl.val (Pl.flipOf c) (t.take k) 0 = m at *
            have hwk : Pl.wid m = k := by
              have := wid_le_k m k (by omega) hvl
              omega
            obtain ⟨h1, h2⟩ : (m : Int) + 112 = n' ∧ ((k + 239 : Nat) : Int) - 238 = z' := by simpa using hw
            have hzt : z.toNat = k + 1 := by omega
            rw [hzt, List.take_succ_cons]
            rcases hfc with ⟨hd, hf, hq⟩ | ⟨hd, hf, hq⟩
            · rw [hf] at h hbv
              unfold Pl.back at h
              rw [if_pos ⟨rfl, by omega⟩] at h
              obtain ⟨h3, _⟩ : -n' - 1 = n ∧ z' = z := by simpa using h
              have hneg : n < 0 := by omega
              obtain ⟨e1, e2⟩ := mag_neg hneg
              have em : Pl.mag n - 112 = m := by omega
              have hcc : UInt8.ofNat ((239 + k) ^^^ 255) = c := UInt8.toNat_inj.1 (by rw [hd255 _ (by omega)]; omega)
              rw [numB_long (by omega), e2, em, hwk, hbv, hcc]
            · rw [hf] at h hbv
              obtain ⟨h3, _⟩ : n' = n ∧ z' = z := by simpa [Pl.back] using h
              have hneg : ¬ n < 0 := by omega
              obtain ⟨e1, e2⟩ := mag_nn hneg
              have em : Pl.mag n - 112 = m := by omega
              have hcc : UInt8.ofNat ((239 + k) ^^^ 0) = c := UInt8.toNat_inj.1 (by rw [hd0 _ (by omega)]; omega)
              rw [numB_long (by omega), e2, em, hwk, hbv, hcc]
theorem count_one (l : List UInt8) (n z : Int) (h : Pl.rdCount l = (n, z, 0)) : Pl.numB n = l.take z.toNat ∧ 0 ≤ n := by
  unfold Pl.rdCount at h
  by_cases hn : (Pl.rdNum l).1 < 0
  · rw [if_pos hn] at h; simp at h
  · rw [if_neg hn] at h
    rw [h] at hn
    exact ⟨num_one l n z h, by simpa using hn⟩

end Go.Proofs.Ytdjiknakbldggaa.Iv

/-
  The bytes of nodes and of all terms; nodes read back; no program is named here.
-/
namespace Go.Proofs.Ytdjiknakbldggaa.Fs
open Go.RowKit

/-- A node, as it is told: its end, its ways. -/
abbrev Nd := Option Int × List (UInt8 × Int × Nat)
def finB : Option Int → List UInt8
  | some v => Pl.numB v
  | none => []
def wayB (w : UInt8 × Int × Nat) : List UInt8 := Pl.numB (w.1.toNat : Nat) ++ (Pl.numB w.2.1 ++ Pl.numB (w.2.2 : Nat))
def headN (n : Nd) : Nat := 2 * n.2.length + (if n.1.isSome then 1 else 0)
/-- The bytes of a node. -/
def bytesN (n : Nd) : List UInt8 := Pl.numB (headN n : Nat) ++ (finB n.1 ++ n.2.flatMap wayB)
def mx : Int := 9223372036854775807
/-- What may be told of a node. -/
structure OkN (n : Nd) : Prop where
  fin : ∀ v, n.1 = some v → 0 ≤ v ∧ v ≤ mx
  way : ∀ w ∈ n.2, 0 ≤ w.2.1 ∧ w.2.1 ≤ mx ∧ (w.2.2 : Int) ≤ mx
  few : n.2.length ≤ 256
theorem num_cancel {a b : Int} {r s : List UInt8} (ha : 0 ≤ a ∧ a ≤ mx) (hb : 0 ≤ b ∧ b ≤ mx) (h : Pl.numB a ++ r = Pl.numB b ++ s) : a = b ∧ r = s := by
  unfold mx at ha hb
  have h1 := congrArg Pl.rdNum h
  rw [Iv.num_back a r (by omega) (by omega), Iv.num_back b s (by omega) (by omega)] at h1
  injection h1 with h2 _
  subst h2
  exact ⟨rfl, List.append_cancel_left h⟩
theorem nat_mx {n : Nat} (h : (n : Int) ≤ mx) : (0 : Int) ≤ (n : Int) ∧ (n : Int) ≤ mx := ⟨by omega, h⟩
theorem way_cancel {v w : UInt8 × Int × Nat} {r s : List UInt8} (hv : 0 ≤ v.2.1 ∧ v.2.1 ≤ mx ∧ (v.2.2 : Int) ≤ mx) (hw : 0 ≤ w.2.1 ∧ w.2.1 ≤ mx ∧ (w.2.2 : Int) ≤ mx) (h : wayB v ++ r = wayB w ++ s) : v = w ∧ r = s := by
  unfold wayB at h
  rw [List.append_assoc, List.append_assoc, List.append_assoc, List.append_assoc] at h
  have hv1 := v.1.toNat_lt
  have hw1 := w.1.toNat_lt
  obtain ⟨h1, h⟩ := num_cancel (nat_mx (by unfold mx; omega)) (nat_mx (by unfold mx; omega)) h
  obtain ⟨h2, h⟩ := num_cancel ⟨hv.1, hv.2.1⟩ ⟨hw.1, hw.2.1⟩ h
  obtain ⟨h3, h4⟩ := num_cancel (nat_mx hv.2.2) (nat_mx hw.2.2) h
  obtain ⟨v1, v2, v3⟩ := v
  obtain ⟨w1, w2, w3⟩ := w
  dsimp only at h1 h2 h3
  have e1 : v1 = w1 := UInt8.toNat_inj.1 (by omega)
  have e3 : v3 = w3 := by omega
  exact ⟨by rw [e1, h2, e3], h4⟩
theorem ways_cancel : ∀ {a b : List (UInt8 × Int × Nat)} {r s : List UInt8}, a.length = b.length → (∀ w ∈ a, 0 ≤ w.2.1 ∧ w.2.1 ≤ mx ∧ (w.2.2 : Int) ≤ mx) → (∀ w ∈ b, 0 ≤ w.2.1 ∧ w.2.1 ≤ mx ∧ (w.2.2 : Int) ≤ mx) → a.flatMap wayB ++ r = b.flatMap wayB ++ s → a = b ∧ r = s
  | [], [], _, _, _, _, _, h => ⟨rfl, h⟩
  | [], _ :: _, _, _, hl, _, _, _ => by simp at hl
  | _ :: _, [], _, _, hl, _, _, _ => by simp at hl
  | v :: a, w :: b, r, s, hl, ha, hb, h => by
    rw [List.flatMap_cons, List.flatMap_cons, List.append_assoc, List.append_assoc] at h
    obtain ⟨h1, h2⟩ := way_cancel (ha v (by simp)) (hb w (by simp)) h
    obtain ⟨h3, h4⟩ := ways_cancel (by simpa using hl) (fun x hx => ha x (List.mem_cons_of_mem _ hx)) (fun x hx => hb x (List.mem_cons_of_mem _ hx)) h2
    exact ⟨by rw [h1, h3], h4⟩
theorem headN_mx {n : Nd} (h : OkN n) : (headN n : Int) ≤ mx := by
  have := h.few
  unfold headN mx
  split <;> omega
/-- The bytes of a node tell the node. -/
theorem bytesN_inj {n m : Nd} {r s : List UInt8} (hn : OkN n) (hm : OkN m) (h : bytesN n ++ r = bytesN m ++ s) : n = m ∧ r = s := by
  unfold bytesN at h
  rw [List.append_assoc, List.append_assoc, List.append_assoc, List.append_assoc] at h
  obtain ⟨h1, h⟩ := num_cancel (nat_mx (headN_mx hn)) (nat_mx (headN_mx hm)) h
  obtain ⟨fn, wn⟩ := n
  obtain ⟨fm, wm⟩ := m
  unfold headN at h1
  dsimp only at h1 h
  cases fn with
  | none =>
    cases fm with
    | none =>
      simp only [Option.isSome_none, Bool.false_eq_true, if_false] at h1
      obtain ⟨h2, h3⟩ := ways_cancel (a := wn) (b := wm) (by omega) hn.way hm.way h
      rw [h2]; exact ⟨rfl, h3⟩
    | some v =>
      simp only [Option.isSome_none, Option.isSome_some, Bool.false_eq_true, if_false, if_true] at h1
      omega
  | some u =>
    cases fm with
    | none =>
      simp only [Option.isSome_none, Option.isSome_some, Bool.false_eq_true, if_false, if_true] at h1
      omega
    | some v =>
      simp only [Option.isSome_some, if_true] at h1
      obtain ⟨h2, h⟩ := num_cancel (hn.fin u rfl) (hm.fin v rfl) h
      obtain ⟨h3, h4⟩ := ways_cancel (a := wn) (b := wm) (by omega) hn.way hm.way h
      rw [h2, h3]; exact ⟨rfl, h4⟩
theorem numB_len (n : Int) : (Pl.numB n).length ≤ 9 := numB_length n
theorem bytesN_length {n : Nd} (h : n.2.length ≤ 256) : (bytesN n).length ≤ 6930 := by
  have key : ∀ l : List (UInt8 × Int × Nat), (l.flatMap wayB).length ≤ 27 * l.length := by
    intro l
    induction l with
    | nil => exact Nat.le_refl _
    | cons w l ih =>
      have hwl : (wayB w).length = (Pl.numB (w.1.toNat : Nat)).length + ((Pl.numB w.2.1).length + (Pl.numB (w.2.2 : Nat)).length) := by
        unfold wayB
        rw [List.length_append, List.length_append]
      rw [List.flatMap_cons, List.length_append, List.length_cons, hwl]
      have h1 := numB_len (w.1.toNat : Nat)
      have h2 := numB_len w.2.1
      have h3 := numB_len (w.2.2 : Nat)
      omega
  unfold bytesN
  rw [List.length_append, List.length_append]
  have h1 := numB_len (headN n : Nat)
  have h2 := key n.2
  have h3 : (finB n.1).length ≤ 9 := by
    cases n.1 with
    | none => exact Nat.zero_le _
    | some v => exact numB_len v
  omega
/-- Numbers that a word holds. -/
def Lw (l : List En) : Prop := ∀ e ∈ l, 0 ≤ e.2 ∧ e.2 ≤ mx
theorem ways_few (l : List En) : (ways l).length ≤ 256 := by
  unfold ways
  exact Nat.le_trans (List.length_filterMap_le _ _) (by simp)
theorem least_bd {l : List En} (h : Lw l) : 0 ≤ least l ∧ least l ≤ mx := by
  by_cases hl : l = []
  · subst hl; unfold mx; exact ⟨Int.le_refl _, by show (0 : Int) ≤ _; omega⟩
  · obtain ⟨e, h1, h2⟩ := least_mem hl
    rw [← h2]
    exact h e h1
theorem behind_lw {l : List En} (h : Lw l) (c : UInt8) : Lw (behind l c) := fun e he => h (c :: e.1, e.2) (mem_behind.1 he)
theorem low_lw {l : List En} (h : Lw l) : Lw (low l) := fun e he => by
  obtain ⟨f, h1, rfl⟩ := List.mem_map.1 he
  have h2 := least_le h1
  have h3 := h f h1
  have h4 := (least_bd h).1
  dsimp only
  omega
theorem way_lw {l : List En} (h : Lw l) {w : UInt8 × Int × List En} (hw : w ∈ ways l) : Lw w.2.2 := by
  obtain ⟨c, m, r⟩ := w
  obtain ⟨_, _, rfl⟩ := mem_ways.1 hw
  exact low_lw (behind_lw h c)
theorem last_bd {l : List En} (h : Lw l) {v : Int} (hv : last l = some v) : 0 ≤ v ∧ v ≤ mx := by
  cases l with
  | nil => cases hv
  | cons e l =>
    obtain ⟨t, o⟩ := e
    cases t with
    | nil =>
      obtain rfl : o = v := by injection hv
      exact h ([], o) (by simp)
    | cons b t => cases hv
theorem node_ok {M : List (List En)} {l : List En} (hl : Lw l) (hM : (M.length : Int) ≤ mx) : OkN (node M l) := by
  refine ⟨fun v hv => last_bd hl hv, fun w hw => ?_, ?_⟩
  · obtain ⟨v, hv, rfl⟩ := List.mem_map.1 hw
    have h1 : Lw (behind l v.1) := behind_lw hl v.1
    obtain ⟨c, m, r⟩ := v
    obtain ⟨h2, rfl, rfl⟩ := mem_ways.1 hv
    have h3 := least_bd h1
    refine ⟨h3.1, h3.2, ?_⟩
    have : at_ M (low (behind l c)) ≤ M.length := List.findIdx_le_length
    unfold mx at *
    dsimp only
    omega
  · unfold node
    rw [List.length_map]
    exact ways_few l
/-- No two nodes are told alike, one that isn't met among them. -/
theorem node_inj2 {M : List (List En)} {l k : List En} (hl : Rise l) (hk : Rise k) (wl : ∀ w ∈ ways l, w.2.2 ∈ M) (wk : ∀ w ∈ ways k, w.2.2 ∈ M) (h : node M l = node M k) : l = k := by
  unfold node at h
  injection h with h1 h2
  refine node_tells hl hk h1 ?_
  have key : ∀ (a b : List (UInt8 × Int × List En)), (∀ w ∈ a, w.2.2 ∈ M) → (∀ w ∈ b, w.2.2 ∈ M) → (a.map fun w => (w.1, w.2.1, at_ M w.2.2)) = (b.map fun w => (w.1, w.2.1, at_ M w.2.2)) → a = b := by
    intro a
    induction a with
    | nil => intro b _ _ h; cases b with | nil => rfl | cons _ _ => cases h
    | cons w a ih =>
      intro b ha hb h
      cases b with
      | nil => cases h
      | cons v b =>
        simp only [List.map_cons, List.cons.injEq, Prod.mk.injEq] at h
        obtain ⟨⟨e1, e2, e3⟩, e4⟩ := h
        have e5 := at_inj (ha w (by simp)) (hb v (by simp)) e3
        rw [ih b (fun x hx => ha x (List.mem_cons_of_mem _ hx)) (fun x hx => hb x (List.mem_cons_of_mem _ hx)) e4]
        obtain ⟨w1, w2, w3⟩ := w
        obtain ⟨v1, v2, v3⟩ := v
        dsimp only at e1 e2 e5
        rw [e1, e2, e5]
  exact key _ _ wl wk h2
/-- The bytes of a node among nodes. -/
def nodeB (M : List (List En)) (l : List En) : List UInt8 := bytesN (node M l)
theorem node_append {M K : List (List En)} {l : List En} (h : ∀ w ∈ ways l, w.2.2 ∈ M) : node (M ++ K) l = node M l := by
  unfold node
  congr 1
  exact List.map_congr_left fun w hw => by rw [at_append (h w hw)]
theorem nodeB_append {M K : List (List En)} {l : List En} (h : ∀ w ∈ ways l, w.2.2 ∈ M) : nodeB (M ++ K) l = nodeB M l := by
  unfold nodeB
  rw [node_append h]
/-- The texts of all nodes. -/
def txt (M : List (List En)) : List (List UInt8) := M.map (nodeB M)
theorem txt_length (M : List (List En)) : (txt M).length = M.length := List.length_map _
theorem txt_snoc {M : List (List En)} (h : Net M) {l : List En} (hw : ∀ w ∈ ways l, w.2.2 ∈ M) : txt (M ++ [l]) = txt M ++ [nodeB M l] := by
  unfold txt
  rw [List.map_append]
  congr 1
  · exact List.map_congr_left fun k hk => nodeB_append (net_ways h hk)
  · rw [List.map_singleton, nodeB_append hw]
theorem txt_inj {M : List (List En)} (h : Net M) (hM : (M.length : Int) ≤ mx) (hlw : ∀ k ∈ M, Lw k) {l : List En} (hl : Rise l) (hlwl : Lw l) (hw : ∀ w ∈ ways l, w.2.2 ∈ M) {k : List En} (hk : k ∈ M) (he : nodeB M k = nodeB M l) : k = l := by
  unfold nodeB at he
  have he2 : bytesN (node M k) ++ [] = bytesN (node M l) ++ [] := by rw [he]
  obtain ⟨h1, _⟩ := bytesN_inj (node_ok (hlw k hk) hM) (node_ok hlwl hM) he2
  exact node_inj2 (h.good k hk).rise hl (net_ways h hk) hw h1
theorem mem_txt {M : List (List En)} (h : Net M) (hM : (M.length : Int) ≤ mx) (hlw : ∀ k ∈ M, Lw k) {l : List En} (hl : Rise l) (hlwl : Lw l) (hw : ∀ w ∈ ways l, w.2.2 ∈ M) : nodeB M l ∈ txt M ↔ l ∈ M := by
  constructor
  · intro q
    obtain ⟨k, hk, he⟩ := List.mem_map.1 q
    rw [← txt_inj h hM hlw hl hlwl hw hk he]
    exact hk
  · intro q
    exact List.mem_map.2 ⟨l, q, rfl⟩
theorem go_lw : ∀ (n : Nat) (l : List En) (M : List (List En)), Lw l → (∀ k ∈ M, Lw k) → ∀ k ∈ go n l M, Lw k
  | 0, _, _, _, h => h
  | n + 1, l, M, hl, h => by
    unfold go
    split
    · exact h
    · have key : ∀ (ws : List (UInt8 × Int × List En)) (M : List (List En)), (∀ k ∈ M, Lw k) → (∀ w ∈ ws, Lw w.2.2) → ∀ k ∈ ws.foldl (fun M w => go n w.2.2 M) M, Lw k := by
        intro ws
        induction ws with
        | nil => intro M hM _; exact hM
        | cons w ws ih =>
          intro M hM hw
          rw [List.foldl_cons]
          exact ih _ (go_lw n w.2.2 M (hw w (by simp)) hM) fun v hv => hw v (List.mem_cons_of_mem _ hv)
      intro k hk
      rcases List.mem_append.1 hk with hk | hk
      · exact key (ways l) M h (fun w hw => way_lw hl hw) k hk
      · rw [List.mem_singleton.1 hk]; exact hl
theorem fold_lw {n : Nat} : ∀ {ws : List (UInt8 × Int × List En)} {M : List (List En)}, (∀ k ∈ M, Lw k) → (∀ w ∈ ws, Lw w.2.2) → ∀ k ∈ fold n ws M, Lw k
  | [], _, hM, _ => hM
  | w :: ws, M, hM, hw => fold_lw (ws := ws) (M := go n w.2.2 M) (go_lw n w.2.2 M (hw w (by simp)) hM) fun v hv => hw v (List.mem_cons_of_mem _ hv)

/-! ### which lists may be built -/
def rightF : List UInt8 → List En → Int
  | _, [] => 0
  | ah, e :: l => if e.1 = [] ∨ e.2 < 0 then 1 else if 64 < e.1.length then 4 else if lt ah e.1 = false then 3 else rightF e.1 l
/-- The first error of a list. -/
def right (l : List En) : Int := if 65536 < l.length then 8 else rightF [] l
theorem lt_nil {t : List UInt8} (h : t ≠ []) : lt [] t = true := by
  cases t with
  | nil => exact absurd rfl h
  | cons b t => rfl
structure Fine (l : List En) : Prop where
  rise : Rise l
  lw : ∀ e ∈ l, 0 ≤ e.2
  some : ∀ e ∈ l, e.1 ≠ [] ∧ e.1.length ≤ 64
  few : l.length ≤ 65536
theorem rightF_ok : ∀ {l : List En} {ah : List UInt8}, rightF ah l = 0 → l.Pairwise (fun a b => lt a.1 b.1 = true) ∧ ∀ e ∈ l, 0 ≤ e.2 ∧ e.1 ≠ [] ∧ e.1.length ≤ 64 ∧ lt ah e.1 = true
  | [], _, _ => ⟨.nil, fun _ h => (by cases h)⟩
  | e :: l, ah, h => by
    unfold rightF at h
    split at h
    · cases h
    · rename_i h1
      split at h
      · cases h
      · rename_i h2
        split at h
        · cases h
        · rename_i h3
          obtain ⟨a1, a2⟩ := rightF_ok h
          have h3' : lt ah e.1 = true := by simpa using h3
          refine ⟨List.pairwise_cons.2 ⟨fun x hx => (a2 x hx).2.2.2, a1⟩, fun x hx => ?_⟩
          rcases List.mem_cons.1 hx with rfl | hx
          · refine ⟨by omega, fun q => h1 (.inl q), by omega, h3'⟩
          · obtain ⟨b1, b2, b3, b4⟩ := a2 x hx
            exact ⟨b1, b2, b3, lt_trans h3' b4⟩
theorem right_ok {l : List En} (h : right l = 0) : Fine l := by
  unfold right at h
  split at h
  · cases h
  · obtain ⟨h1, h2⟩ := rightF_ok h
    exact ⟨h1, fun e he => (h2 e he).1, fun e he => ⟨(h2 e he).2.1, (h2 e he).2.2.1⟩, by omega⟩
theorem right_vals (l : List En) : right l = 0 ∨ right l = 8 ∨ right l = 1 ∨ right l = 4 ∨ right l = 3 := by
  have key : ∀ (l : List En) (ah : List UInt8), rightF ah l = 0 ∨ rightF ah l = 1 ∨ rightF ah l = 4 ∨ rightF ah l = 3 := by
    intro l
    induction l with
    | nil => intro ah; exact .inl rfl
    | cons e l ih =>
      intro ah
      unfold rightF
      repeat' split
      · omega
      · omega
      · omega
      · exact ih _
  unfold right
  split
  · omega
  · have := key l []; omega
/-- The bytes of terms that rise. -/
def bytes (l : List En) : List UInt8 := Pl.numB ((nodes l).length : Nat) ++ (Pl.numB (least l) ++ (txt (nodes l)).flatMap id)
/-- What is built of a list. -/
def built (l : List En) : List UInt8 := if right l = 0 then bytes l else []
end Go.Proofs.Ytdjiknakbldggaa.Fs

/-
  Nodes read off bytes; what was built is read back; no program is named here.
-/
namespace Go.Proofs.Ytdjiknakbldggaa.Fs
open Go.RowKit

/-- What is left behind a number. -/
def past (s : List UInt8) : List UInt8 := s.drop (Pl.rdCount s).2.1.toNat
def cE (s : List UInt8) : Int := (Pl.rdCount s).2.2
def cN (s : List UInt8) : Int := (Pl.rdCount s).1
/-- A way of the node at place n, read off bytes: the error, the way, what is left. -/
def rdW (n : Nat) (s : List UInt8) : Int × (UInt8 × Int × Nat) × List UInt8 :=
  if cE s ≠ 0 then (cE s, (0, 0, 0), [])
  else if cE (past s) ≠ 0 then (cE (past s), (0, 0, 0), [])
  else if cE (past (past s)) ≠ 0 then (cE (past (past s)), (0, 0, 0), [])
  else if 255 < cN s ∨ (n : Int) ≤ cN (past (past s)) then (3, (0, 0, 0), [])
  else (0, (UInt8.ofNat (cN s).toNat, cN (past s), (cN (past (past s))).toNat), past (past (past s)))
def rdWs : Nat → Nat → List UInt8 → List (UInt8 × Int × Nat) → Int × List (UInt8 × Int × Nat) × List UInt8
  | 0, _, s, acc => (0, acc, s)
  | k + 1, n, s, acc => if (rdW n s).1 ≠ 0 then ((rdW n s).1, [], []) else rdWs k n (rdW n s).2.2 (acc ++ [(rdW n s).2.1])
/-- A node, read off bytes. -/
def rdN (n : Nat) (s : List UInt8) : Int × Nd × List UInt8 :=
  if cE s ≠ 0 then (cE s, (none, []), [])
  else if 513 < cN s then (3, (none, []), [])
  else if cN s % 2 = 1 then
    if cE (past s) ≠ 0 then (cE (past s), (none, []), [])
    else ((rdWs ((cN s).toNat / 2) n (past (past s)) []).1, (some (cN (past s)), (rdWs ((cN s).toNat / 2) n (past (past s)) []).2.1), (rdWs ((cN s).toNat / 2) n (past (past s)) []).2.2)
  else ((rdWs ((cN s).toNat / 2) n (past s) []).1, (none, (rdWs ((cN s).toNat / 2) n (past s) []).2.1), (rdWs ((cN s).toNat / 2) n (past s) []).2.2)
/-- What is behind a way. -/
def upW (c : UInt8) (m : Int) (l : List En) : List En := l.map fun e => (c :: e.1, wrap64 (e.2 + m))
def ofEnd : Option Int → List En
  | some v => [([], v)]
  | none => []
/-- What is behind a node. -/
def ent (T : List (List En)) (n : Nd) : List En := ofEnd n.1 ++ n.2.flatMap fun w => upW w.1 w.2.1 (T.getD w.2.2 [])
/-- Whether too much is behind a node. -/
def Wide (l : List En) : Prop := 65536 < l.length ∨ 64 < deep l
instance (l : List En) : Decidable (Wide l) := by unfold Wide; infer_instance
def rdNs : Nat → List UInt8 → List Nd → List (List En) → Int × (List Nd × List (List En)) × List UInt8
  | 0, s, N, T => (0, (N, T), s)
  | k + 1, s, N, T =>
    if (rdN N.length s).1 ≠ 0 then ((rdN N.length s).1, ([], []), [])
    else if Wide (ent T (rdN N.length s).2.1) then (3, ([], []), [])
    else rdNs k (rdN N.length s).2.2 (N ++ [(rdN N.length s).2.1]) (T ++ [ent T (rdN N.length s).2.1])
/-- Numbers that are more by so much, as words. -/
def addW (m : Int) (l : List En) : List En := l.map fun e => (e.1, wrap64 (e.2 + m))
/-- What is read. -/
def rdAll (s : List UInt8) : Int × (List Nd × List (List En)) × List UInt8 :=
  if cE s ≠ 0 then (cE s, ([], []), [])
  else if cE (past s) ≠ 0 then (cE (past s), ([], []), [])
  else rdNs (cN s).toNat (past (past s)) [] []
def allOf (s : List UInt8) : List En := addW (cN (past s)) ((rdAll s).2.1.2.getLast?.getD [])
/-- The first error of bytes that are opened. -/
def openE (s : List UInt8) : Int :=
  if (rdAll s).1 ≠ 0 then (rdAll s).1
  else if (rdAll s).2.2 ≠ [] then 5
  else if right (allOf s) = 0 ∧ bytes (allOf s) = s then 0 else 3

/-! ### read back -/
theorem count_num {n : Int} (h : 0 ≤ n ∧ n ≤ mx) (r : List UInt8) : Pl.rdCount (Pl.numB n ++ r) = (n, ((Pl.numB n).length : Int), 0) := by
  unfold mx at h
  obtain ⟨m, rfl⟩ := Int.eq_ofNat_of_zero_le h.1
  exact Iv.count_back m r (by omega)
theorem past_num {n : Int} (h : 0 ≤ n ∧ n ≤ mx) (r : List UInt8) : past (Pl.numB n ++ r) = r := by
  unfold past
  rw [count_num h]
  show List.drop ((Pl.numB n).length : Int).toNat _ = _
  rw [Int.toNat_natCast, List.drop_left]
theorem cE_num {n : Int} (h : 0 ≤ n ∧ n ≤ mx) (r : List UInt8) : cE (Pl.numB n ++ r) = 0 := by unfold cE; rw [count_num h]
theorem cN_num {n : Int} (h : 0 ≤ n ∧ n ≤ mx) (r : List UInt8) : cN (Pl.numB n ++ r) = n := by unfold cN; rw [count_num h]
theorem rdW_back {n : Nat} {w : UInt8 × Int × Nat} (h : 0 ≤ w.2.1 ∧ w.2.1 ≤ mx ∧ (w.2.2 : Int) ≤ mx) (hn : w.2.2 < n) (r : List UInt8) : rdW n (wayB w ++ r) = (0, w, r) := by
  obtain ⟨c, o, t⟩ := w
  have hc := c.toNat_lt
  have h1 : (0 : Int) ≤ ((c.toNat : Nat) : Int) ∧ ((c.toNat : Nat) : Int) ≤ mx := nat_mx (by unfold mx; omega)
  have h2 : 0 ≤ o ∧ o ≤ mx := ⟨h.1, h.2.1⟩
  have h3 : (0 : Int) ≤ ((t : Nat) : Int) ∧ ((t : Nat) : Int) ≤ mx := nat_mx h.2.2
  unfold wayB
  rw [List.append_assoc, List.append_assoc]
  dsimp only at hn ⊢
  unfold rdW
  rw [cE_num h1, past_num h1, cE_num h2, past_num h2, cE_num h3, past_num h3, cN_num h1, cN_num h2, cN_num h3]
  rw [if_neg (by omega), if_neg (by omega), if_neg (by omega), if_neg (by omega)]
  simp
theorem rdWs_back : ∀ {ws : List (UInt8 × Int × Nat)} {n : Nat} (acc : List (UInt8 × Int × Nat)) (r : List UInt8), (∀ w ∈ ws, 0 ≤ w.2.1 ∧ w.2.1 ≤ mx ∧ (w.2.2 : Int) ≤ mx) → (∀ w ∈ ws, w.2.2 < n) → rdWs ws.length n (ws.flatMap wayB ++ r) acc = (0, acc ++ ws, r)
  | [], _, acc, r, _, _ => by simp [rdWs]
  | w :: ws, n, acc, r, h, hn => by
    rw [List.length_cons, List.flatMap_cons, List.append_assoc]
    unfold rdWs
    rw [rdW_back (h w (by simp)) (hn w (by simp)), if_neg (by simp), rdWs_back _ _ (fun v hv => h v (List.mem_cons_of_mem _ hv)) (fun v hv => hn v (List.mem_cons_of_mem _ hv))]
    simp
theorem rdN_back {n : Nat} {d : Nd} (h : OkN d) (hn : ∀ w ∈ d.2, w.2.2 < n) (r : List UInt8) : rdN n (bytesN d ++ r) = (0, d, r) := by
  have h0 := nat_mx (headN_mx h)
  have hf := h.few
  obtain ⟨f, ws⟩ := d
  unfold bytesN
  rw [List.append_assoc, List.append_assoc]
  dsimp only at hn hf ⊢
  unfold rdN
  rw [cE_num h0, past_num h0, cN_num h0, if_neg (by omega)]
  unfold headN
  cases f with
  | none =>
    simp only [Option.isSome_none, Bool.false_eq_true, if_false]
    rw [if_neg (by omega), if_neg (by omega), show ((2 * ws.length + 0 : Nat) : Int).toNat / 2 = ws.length by omega]
    show ((rdWs ws.length n (ws.flatMap wayB ++ r) []).1, (none, (rdWs ws.length n (ws.flatMap wayB ++ r) []).2.1), (rdWs ws.length n (ws.flatMap wayB ++ r) []).2.2) = _
    rw [rdWs_back [] r h.way hn]
    rfl
  | some v =>
    simp only [Option.isSome_some, if_true]
    have h1 := h.fin v rfl
    rw [if_neg (by omega), if_pos (by omega), show ((2 * ws.length + 1 : Nat) : Int).toNat / 2 = ws.length by omega]
    show (if cE (Pl.numB v ++ (ws.flatMap wayB ++ r)) ≠ 0 then (cE (Pl.numB v ++ (ws.flatMap wayB ++ r)), (none, []), []) else ((rdWs ws.length n (past (Pl.numB v ++ (ws.flatMap wayB ++ r))) []).1, (some (cN (Pl.numB v ++ (ws.flatMap wayB ++ r))), (rdWs ws.length n (past (Pl.numB v ++ (ws.flatMap wayB ++ r))) []).2.1), (rdWs ws.length n (past (Pl.numB v ++ (ws.flatMap wayB ++ r))) []).2.2)) = _
    rw [cE_num h1, past_num h1, cN_num h1, if_neg (by omega), rdWs_back [] r h.way hn]
    rfl
theorem wrap_id {a : Int} (h : 0 ≤ a ∧ a ≤ mx) : wrap64 a = a := by
  unfold mx at h
  unfold wrap64
  omega
theorem ent_node {M : List (List En)} (hM : Net M) {i : Nat} {l : List En} (hl : M[i]? = some l) (hw : Lw l) : ent (M.take i) (node M l) = l := by
  have hr : Rise l := (hM.good l (List.mem_of_getElem? hl)).rise
  conv => rhs; rw [told hr]
  unfold ent node
  dsimp only
  congr 1
  · rw [List.flatMap_map]
    have key : ∀ ws : List (UInt8 × Int × List En), (∀ w ∈ ws, w ∈ ways l) → (ws.flatMap fun w => upW w.1 w.2.1 ((M.take i).getD (at_ M w.2.2) [])) = ws.flatMap fun w => up w.1 w.2.1 w.2.2 := by
      intro ws
      induction ws with
      | nil => intro _; rfl
      | cons w ws ih =>
        intro h
        rw [List.flatMap_cons, List.flatMap_cons, ih fun v hv => h v (List.mem_cons_of_mem _ hv)]
        congr 1
        have hww := h w (by simp)
        have hin := hM.ahead i l hl w hww
        have hlt := at_take hin
        have hmem : w.2.2 ∈ M := List.mem_of_mem_take hin
        have hget : (M.take i).getD (at_ M w.2.2) [] = w.2.2 := by
          rw [List.getD_eq_getElem?_getD, List.getElem?_take_of_lt hlt, List.getElem?_eq_getElem (at_lt hmem), at_get hmem]
          rfl
        rw [hget]
        unfold upW up
        refine List.map_congr_left fun e he => ?_
        have : (w.1 :: e.1, e.2 + w.2.1) ∈ l := by
          rw [told hr]
          exact List.mem_append_right _ (List.mem_flatMap.2 ⟨w, hww, List.mem_map.2 ⟨e, he, rfl⟩⟩)
        rw [wrap_id (hw _ this)]
    exact key (ways l) fun _ h => h
theorem rdNs_back {M : List (List En)} (hM : Net M) (hlen : (M.length : Int) ≤ mx) (hlw : ∀ k ∈ M, Lw k) (hs : ∀ k ∈ M, ¬ Wide k) : ∀ (j i : Nat) (r : List UInt8), i + j = M.length →
    rdNs j (((M.drop i).map (nodeB M)).flatMap id ++ r) ((M.take i).map (node M)) (M.take i) = (0, (M.map (node M), M), r)
  | 0, i, r, h => by
    have h1 : M.drop i = [] := List.drop_of_length_le (by omega)
    have h2 : M.take i = M := List.take_of_length_le (by omega)
    rw [h1, h2]
    rfl
  | j + 1, i, r, h => by
    have hi : i < M.length := by omega
    have hl : M[i]? = some M[i] := List.getElem?_eq_getElem hi
    have hmem := List.getElem_mem hi
    have hd : M.drop i = M[i] :: M.drop (i + 1) := List.drop_eq_getElem_cons hi
    have hk : (M.take i).length = i := by rw [List.length_take]; omega
    rw [hd, List.map_cons, List.flatMap_cons, List.append_assoc]
    unfold rdNs
    rw [List.length_map, hk]
    have hb := rdN_back (n := i) (node_ok (M := M) (hlw _ hmem) hlen) (fun w hw => by
      obtain ⟨v, hv, rfl⟩ := List.mem_map.1 hw
      exact at_take (hM.ahead i _ hl v hv)) (((M.drop (i + 1)).map (nodeB M)).flatMap id ++ r)
    have hb2 : rdN i (id (nodeB M M[i]) ++ (((M.drop (i + 1)).map (nodeB M)).flatMap id ++ r)) = (0, node M M[i], ((M.drop (i + 1)).map (nodeB M)).flatMap id ++ r) := hb
    rw [hb2, if_neg (by simp), ent_node hM hl (hlw _ hmem), if_neg (hs _ hmem)]
    have e1 : (M.take i).map (node M) ++ [node M M[i]] = (M.take (i + 1)).map (node M) := by
      rw [List.take_succ_eq_append_getElem hi, List.map_append]
      rfl
    have e2 : M.take i ++ [M[i]] = M.take (i + 1) := (List.take_succ_eq_append_getElem hi).symm
    rw [e1, e2]
    exact rdNs_back hM hlen hlw hs j (i + 1) r (by omega)
/-- Nodes are no wider than what they are of. -/
theorem behind_length (l : List En) (c : UInt8) : (behind l c).length ≤ l.length := List.length_filterMap_le _ _
theorem go_size : ∀ (n : Nat) (l : List En) (M : List (List En)), ∀ k ∈ go n l M, k ∈ M ∨ k.length ≤ l.length
  | 0, _, _ => fun k h => .inl h
  | n + 1, l, M => fun k hk => by
    unfold go at hk
    split at hk
    · exact .inl hk
    · rcases List.mem_append.1 hk with hk | hk
      · have key : ∀ (ws : List (UInt8 × Int × List En)) (M : List (List En)), (∀ w ∈ ws, w ∈ ways l) → ∀ k ∈ ws.foldl (fun M w => go n w.2.2 M) M, k ∈ M ∨ k.length ≤ l.length := by
          intro ws
          induction ws with
          | nil => intro M _ k hk; exact .inl hk
          | cons w ws ih =>
            intro M hw k hk
            rw [List.foldl_cons] at hk
            rcases ih _ (fun v hv => hw v (List.mem_cons_of_mem _ hv)) k hk with q | q
            · rcases go_size n w.2.2 M k q with q | q
              · exact .inl q
              · have h1 := hw w (by simp)
                obtain ⟨c, m, r⟩ := w
                obtain ⟨_, _, rfl⟩ := mem_ways.1 h1
                have h2 := behind_length l c
                dsimp only at q
                unfold low at q
                rw [List.length_map] at q
                exact .inr (by omega)
            · exact .inr q
        exact key (ways l) M (fun _ h => h) k hk
      · rw [List.mem_singleton.1 hk]; exact .inr (Nat.le_refl _)
theorem nodes_size {l : List En} : ∀ k ∈ nodes l, k.length ≤ l.length ∧ deep k ≤ deep l := fun k hk => by
  unfold nodes at hk
  split at hk
  · cases hk
  · refine ⟨?_, ?_⟩
    · rcases go_size _ _ _ k hk with q | q
      · cases q
      · unfold low at q; rw [List.length_map] at q; exact q
    · rcases go_net.go_deep 0 [] _ _ _ k hk with q | q
      · cases q
      · rw [deep_low] at q; exact q
theorem nodes_lw {l : List En} (h : Lw l) : ∀ k ∈ nodes l, Lw k := fun k hk => by
  unfold nodes at hk
  split at hk
  · cases hk
  · exact go_lw _ _ _ (low_lw h) (fun _ q => by cases q) k hk
theorem fine_total {l : List En} (h : Fine l) : total l ≤ 4194304 := by
  have key : ∀ k : List En, (∀ e ∈ k, e.1.length ≤ 64) → total k ≤ 64 * k.length := by
    intro k
    induction k with
    | nil => intro _; exact Nat.le_refl _
    | cons e k ih =>
      intro hk
      have h1 := ih fun x hx => hk x (List.mem_cons_of_mem _ hx)
      have h2 := hk e (by simp)
      unfold total at *
      rw [List.map_cons, List.sum_cons, List.length_cons]
      omega
  have h1 := key l fun e he => (h.some e he).2
  have h2 := h.few
  omega
theorem nodes_mx {l : List En} (h : Fine l) : (nodes l).length ≤ 4194305 := by
  have h1 := nodes_length h.rise
  have h2 := fine_total h
  omega
theorem fine_lw {l : List En} (h : Fine l) (hm : ∀ e ∈ l, e.2 ≤ mx) : Lw l := fun e he => ⟨h.lw e he, hm e he⟩
/-- What was built is read as its nodes. -/
theorem rd_bytes {l : List En} (h : Fine l) (hm : ∀ e ∈ l, e.2 ≤ mx) : rdAll (bytes l) = (0, ((nodes l).map (node (nodes l)), nodes l), []) ∧ cN (past (bytes l)) = least l := by
  have hlw := fine_lw h hm
  have h1 := nodes_mx h
  have h2 : (0 : Int) ≤ ((nodes l).length : Int) ∧ ((nodes l).length : Int) ≤ mx := nat_mx (by unfold mx; omega)
  have h3 := least_bd hlw
  have hw : ∀ k ∈ nodes l, ¬ Wide k := fun k hk q => by
    obtain ⟨a1, a2⟩ := nodes_size k hk
    have a3 : deep l ≤ 64 := deep_of fun e he => (h.some e he).2
    have a4 := h.few
    unfold Wide at q
    omega
  have hb := rdNs_back (nodes_net h.rise) h2.2 (nodes_lw hlw) hw (nodes l).length 0 [] (by omega)
  rw [List.drop_zero, List.append_nil, List.take_zero] at hb
  unfold bytes rdAll
  rw [cE_num h2, past_num h2, cE_num h3, past_num h3, cN_num h2, cN_num h3, if_neg (by omega), if_neg (by omega), Int.toNat_natCast]
  exact ⟨hb, rfl⟩
theorem all_bytes {l : List En} (h : Fine l) (hm : ∀ e ∈ l, e.2 ≤ mx) : allOf (bytes l) = l := by
  obtain ⟨h1, h2⟩ := rd_bytes h hm
  have hlw := fine_lw h hm
  unfold allOf
  rw [h1, h2]
  dsimp only
  by_cases hl : l = []
  · subst hl
    have : nodes [] = [] := rfl
    rw [this]
    rfl
  · obtain ⟨K, hK⟩ := nodes_last hl
    rw [hK, List.getLast?_append]
    show addW (least l) (low l) = l
    have : addW (least l) (low l) = add (least l) (low l) := by
      unfold addW add
      refine List.map_congr_left fun e he => ?_
      obtain ⟨f, h3, rfl⟩ := List.mem_map.1 he
      have h4 := hlw f h3
      rw [wrap_id (by dsimp only; omega)]
    rw [this, up_low]
/-- What was built is opened. -/
theorem open_bytes {l : List En} (h : right l = 0) (hm : ∀ e ∈ l, e.2 ≤ mx) : openE (bytes l) = 0 := by
  have hf := right_ok h
  obtain ⟨h1, h2⟩ := rd_bytes hf hm
  unfold openE
  rw [h1, all_bytes hf hm]
  rw [if_neg (by simp), if_neg (by simp), if_pos ⟨h, rfl⟩]
/-- Of what is opened no node is without terms. -/
theorem wrap_mx (a : Int) : wrap64 a ≤ mx := by unfold wrap64 mx; omega
theorem all_mx (s : List UInt8) : ∀ e ∈ allOf s, e.2 ≤ mx := fun e he => by
  obtain ⟨f, _, rfl⟩ := List.mem_map.1 he
  exact wrap_mx _
theorem open_full {s : List UInt8} (h : right (allOf s) = 0 ∧ bytes (allOf s) = s) : (rdAll s).2.1.2 = nodes (allOf s) ∧ (rdAll s).2.1.1 = (nodes (allOf s)).map (node (nodes (allOf s))) ∧ cN (past s) = least (allOf s) ∧ ∀ k ∈ (rdAll s).2.1.2, k ≠ [] := by
  have hf := right_ok h.1
  obtain ⟨h1, h2⟩ := rd_bytes hf (all_mx s)
  rw [h.2] at h1 h2
  have hn := nodes_net hf.rise
  have e : ∀ k ∈ nodes (allOf s), k ≠ [] := fun k hk => (hn.good k hk).ne
  rw [h1]
  exact ⟨rfl, rfl, h2, e⟩
end Go.Proofs.Ytdjiknakbldggaa.Fs

/-
  What the document's own reader of numbers answers.
-/
namespace Go.Proofs.Ytdjiknakbldggaa
open Go.RowKit

set_option maxRecDepth 100000 in
set_option maxHeartbeats 400000 in
theorem long_up (c : Nat) (w : World) (h1 : 240 ≤ c) (h2 : c ≤ 247) :
    Calls Try.prog 65 #[.int .u8 c] w fun e' w' => e' = .returned (.int .i64 ((c : Int) - 239)) ∧ w = w' := by
  go_enter Try.func65, Try.ntmps65
  go_wp2
  go_ret
  exact ⟨rfl, rfl⟩
set_option maxRecDepth 100000 in
set_option maxHeartbeats 400000 in
theorem long_down (c : Nat) (w : World) (h1 : 8 ≤ c) (h2 : c ≤ 15) :
    Calls Try.prog 65 #[.int .u8 c] w fun e' w' => e' = .returned (.int .i64 (16 - (c : Int))) ∧ w = w' := by
  go_enter Try.func65, Try.ntmps65
  go_wp2
  go_ret
  exact ⟨rfl, rfl⟩
set_option maxRecDepth 100000 in
set_option maxHeartbeats 400000 in
theorem long_near (c : Nat) (w : World) (h1 : 16 ≤ c) (h2 : c < 240) :
    Calls Try.prog 65 #[.int .u8 c] w fun e' w' => e' = .returned (.int .i64 0) ∧ w = w' := by
  go_enter Try.func65, Try.ntmps65
  go_wp2
  go_ret
  exact ⟨rfl, rfl⟩
set_option maxRecDepth 100000 in
set_option maxHeartbeats 400000 in
theorem long_low (c : Nat) (w : World) (h1 : c < 8) :
    Calls Try.prog 65 #[.int .u8 c] w fun e' w' => e' = .returned (.int .i64 (-1)) ∧ w = w' := by
  go_enter Try.func65, Try.ntmps65
  go_wp2
  go_ret
  exact ⟨rfl, rfl⟩
set_option maxRecDepth 100000 in
set_option maxHeartbeats 400000 in
theorem long_high (c : Nat) (w : World) (h1 : 247 < c) :
    Calls Try.prog 65 #[.int .u8 c] w fun e' w' => e' = .returned (.int .i64 (-1)) ∧ w = w' := by
  go_enter Try.func65, Try.ntmps65
  go_wp2
  go_ret
  exact ⟨rfl, rfl⟩

theorem xor_back (b : UInt8) (f : Nat) (hf : f < 256) : UInt8.ofNat ((b.toNat ^^^ f) % 256 ^^^ f) = b := by
  have h := Pl.xor_lt b f hf
  rw [Nat.mod_eq_of_lt h, Nat.xor_assoc, Nat.xor_self, Nat.xor_zero]
  exact UInt8.ofNat_toNat
theorem be_val (f : Nat) (hf : f < 256) (l : List UInt8) : Pl.be f l.length (Pl.val f l 0) = l := by
  suffices h : ∀ n (l : List UInt8), l.length = n → Pl.be f l.length (Pl.val f l 0) = l from h _ l rfl
  intro n
  induction n with
  | zero => intro l h; obtain rfl := List.length_eq_zero_iff.1 h; rfl
  | succ n ih =>
    intro l h
    obtain ⟨r, b, rfl⟩ : ∃ r b, l = r ++ [b] := ⟨l.dropLast, l.getLast (by intro e; subst e; simp at h), (List.dropLast_concat_getLast _).symm⟩
    have hr : r.length = n := by simpa using h
    have hb := Pl.xor_lt b f hf
    rw [Pl.val_snoc, List.length_append, List.length_singleton, be_split]
    rw [show (256 * Pl.val f r 0 + (b.toNat ^^^ f)) / 256 = Pl.val f r 0 from by omega, show (256 * Pl.val f r 0 + (b.toNat ^^^ f)) % 256 = (b.toNat ^^^ f) % 256 from by omega, ih r hr, xor_back b f hf]

/-- The head of a long number. -/
theorem wid_lt (m k : Nat) (hk : 1 ≤ k) (h : m < 256 ^ k) : Pl.wid m ≤ k := by
  have h8 := Pl.wid_le m
  rcases Nat.lt_or_ge 8 k with h' | h'
  · omega
  · have hc : k = 1 ∨ k = 2 ∨ k = 3 ∨ k = 4 ∨ k = 5 ∨ k = 6 ∨ k = 7 ∨ k = 8 := by omega
    unfold Pl.wid
    rcases hc with rfl | rfl | rfl | rfl | rfl | rfl | rfl | rfl <;> simp only [Nat.reducePow] at h <;> repeat' split
    all_goals omega

set_option maxRecDepth 100000 in
set_option maxHeartbeats 400000 in
theorem readNumR_empty (s : ByteArray) (w : World) (h : s.size = 0) :
    Calls Try.prog 60 #[.string s] w fun e' w' => e' = .returned (.tuple #[.int .i64 0, .int .i64 0, .int .i64 2]) ∧ w = w' := by
  have h1 := empty_true s h
  clear h
  go_enter Try.func60, Try.ntmps60
  go_wp2_with fail
  go_ret3
  exact ⟨rfl, rfl⟩
set_option maxRecDepth 100000 in
set_option maxHeartbeats 400000 in
theorem readNumR_bad (s : ByteArray) (w : World) (h0 : 0 < s.size) (hc : s[0].toNat < 8 ∨ 247 < s[0].toNat) :
    Calls Try.prog 60 #[.string s] w fun e' w' => e' = .returned (.tuple #[.int .i64 0, .int .i64 0, .int .i64 3]) ∧ w = w' := by
  have h1 := empty_false s h0
  have hl : Hid (Calls Try.prog 65 #[.int .u8 s[0].toNat] w fun e' w' => e' = .returned (.int .i64 (-1)) ∧ w = w') := by
    rcases hc with hc | hc
    · exact long_low _ w hc
    · exact long_high _ w hc
  clear hc
  go_enter Try.func60, Try.ntmps60
  go_wp2_with (refine hl.out.mono ?_; rintro e w' ⟨rfl, rfl⟩)
  go_ret3
  exact ⟨rfl, rfl⟩
set_option maxRecDepth 100000 in
set_option maxHeartbeats 400000 in
theorem readNumR_near (s : ByteArray) (w : World) (h0 : 0 < s.size) (hc : 16 ≤ s[0].toNat) (hc2 : s[0].toNat < 240) :
    Calls Try.prog 60 #[.string s] w fun e' w' => e' = .returned (.tuple #[.int .i64 ((s[0].toNat : Int) - 128), .int .i64 1, .int .i64 0]) ∧ w = w' := by
  have h1 := empty_false s h0
  go_enter Try.func60, Try.ntmps60
  go_wp2_with (refine (long_near _ _ hc hc2).mono ?_; rintro e w' ⟨rfl, rfl⟩)
  go_ret3
  exact ⟨rfl, rfl⟩
set_option maxRecDepth 100000 in
set_option maxHeartbeats 400000 in
theorem readNumR_short (s : ByteArray) (k : Nat) (w : World) (h0 : 0 < s.size) (hk1 : 1 ≤ k) (hk8 : k ≤ 8) (hk : s.size ≤ k)
    (hl : Hid (Calls Try.prog 65 #[.int .u8 s[0].toNat] w fun e' w' => e' = .returned (.int .i64 k) ∧ w = w')) :
    Calls Try.prog 60 #[.string s] w fun e' w' => e' = .returned (.tuple #[.int .i64 0, .int .i64 0, .int .i64 2]) ∧ w = w' := by
  have h1 := empty_false s h0
  have hk0 : ((k : Int) == 0) = false := by simp; omega
  go_enter Try.func60, Try.ntmps60
  go_wp2_with (refine hl.out.mono ?_; rintro e w' ⟨rfl, rfl⟩)
  go_ret3
  exact ⟨rfl, rfl⟩

theorem val_lt_k (f : Nat) (hf : f < 256) (l : List UInt8) (j : Nat) : Pl.val f (l.take j) 0 < 256 ^ j := val_bound f hf l j j (Nat.le_refl _)

/-- A number read off k bytes is written in just these bytes if and only if fewer are not enough. -/
theorem same_bytes (f k m : Nat) (hf : f < 256) (c : UInt8) (l : List UInt8) (n : Int) (hl : l.length = k) (hm : Pl.val f l 0 = m) (hk : 1 ≤ k) (hn : Pl.numB n = UInt8.ofNat ((239 + Pl.wid m) ^^^ f) :: Pl.be f (Pl.wid m) m) (hc : c = UInt8.ofNat ((239 + k) ^^^ f)) :
    (Pl.numB n = c :: l) ↔ k ≤ Pl.wid m := by
  subst hl
  subst hm
  have hlt := Pl.val_lt f hf l 0 0 (by simp)
  rw [Nat.zero_add] at hlt
  have hw := wid_lt _ l.length hk hlt
  constructor
  · intro h
    rw [hn] at h
    have := congrArg List.length h
    simp only [List.length_cons, be_length] at this
    omega
  · intro h
    have he : Pl.wid (Pl.val f l 0) = l.length := by omega
    rw [hn, he, hc, be_val f hf l]

theorem head_take (s : ByteArray) (k : Nat) (h0 : 0 < s.size) : (s.extract 0 (k + 1)).toList = s[0] :: s.data.toList.tail.take k := by
  rw [ByteArray.toList_eq, Lib.extract_data]
  have hl : 0 < s.data.toList.length := by simpa using h0
  have h : s.data.toList = s[0] :: s.data.toList.tail := by
    rw [← List.cons_head_tail (List.ne_nil_of_length_pos hl)]
    congr 1
    rw [List.head_eq_getElem]
    rfl
  conv => lhs; rw [h]
  simp

theorem numB_far (m : Nat) : Pl.numB ((m : Int) + 112) = UInt8.ofNat ((239 + Pl.wid m) ^^^ 0) :: Pl.be 0 (Pl.wid m) m := by
  have h1 : Pl.mag ((m : Int) + 112) = m + 112 := by unfold Pl.mag; rw [if_neg (by omega)]; omega
  have h2 : Pl.sgn ((m : Int) + 112) = 0 := by unfold Pl.sgn; rw [if_neg (by omega)]
  unfold Pl.numB
  rw [h1, h2, if_neg (by omega), Nat.add_sub_cancel]
theorem numB_farM (m : Nat) : Pl.numB (-113 - (m : Int)) = UInt8.ofNat ((239 + Pl.wid m) ^^^ 255) :: Pl.be 255 (Pl.wid m) m := by
  have h1 : Pl.mag (-113 - (m : Int)) = m + 112 := by unfold Pl.mag; rw [if_pos (by omega)]; omega
  have h2 : Pl.sgn (-113 - (m : Int)) = 255 := by unfold Pl.sgn; rw [if_pos (by omega)]
  unfold Pl.numB
  rw [h1, h2, if_neg (by omega), Nat.add_sub_cancel]

set_option maxRecDepth 100000 in
set_option maxHeartbeats 2000000 in
theorem readNumR_loop (s : ByteArray) (k : Nat) (w : World) (h0 : 0 < s.size) (hsz : s.size ≤ 9223372036854775807) (hk1 : 1 ≤ k) (hk8 : k ≤ 8) (hk : k < s.size) (hc : 240 ≤ s[0].toNat) (hc2 : s[0].toNat < 256)
    (hl : Hid (Calls Try.prog 65 #[.int .u8 s[0].toNat] w fun e' w' => e' = .returned (.int .i64 k) ∧ w = w')) (hck : Hid (s[0] = UInt8.ofNat ((239 + k) ^^^ 0)))
    (n z e : Int) (hr : (if Pl.wid (Pl.val 0 (s.data.toList.tail.take k) 0) < k ∨ 9223372036854775695 < Pl.val 0 (s.data.toList.tail.take k) 0 then ((0, 0, 3) : Int × Int × Int) else ((Pl.val 0 (s.data.toList.tail.take k) 0 : Int) + 112, (k : Int) + 1, 0)) = (n, z, e)) :
    Calls Try.prog 60 #[.string s] w fun e' w' => e' = .returned (.tuple #[.int .i64 n, .int .i64 z, .int .i64 e]) ∧ Below w.heap.size w w' := by
  have HR := Lib.hid hr
  clear hr
  have h1 := empty_false s h0
  have hk0 : ((k : Int) == 0) = false := by simp; omega
  go_enter Try.func60, Try.ntmps60
  go_wp2_with (refine hl.out.mono ?_; rintro e w' ⟨rfl, rfl⟩)
  go_loop [6, 7] (fun m i => ∃ j : Nat, j ≤ k ∧ i = .int .i64 ((j : Int) + 1) ∧ m = .int .u64 (Pl.val 0 (s.data.toList.tail.take j) 0)) (fun _ i => k + 1 - (intOf i).toNat)
  case atStart => exact ⟨0, Nat.zero_le _, rfl, rfl⟩
  case round =>
    obtain ⟨j, hj, rfl, rfl⟩ := hrel
    by_cases hlt : j < k
    · have hi : j + 1 < s.size := by omega
      have hst : Hid (Pl.val 0 (s.data.toList.tail.take (j + 1)) 0 = 256 * Pl.val 0 (s.data.toList.tail.take j) 0 + (s[j+1].toNat ^^^ 0)) := by
        show _ = _
        rw [tail_take s j hi, Pl.val_snoc]
      have hv : Pl.val 0 (s.data.toList.tail.take j) 0 < 72057594037927936 := val_bound 0 (by omega) _ j 7 (by omega)
      have hb : s[j+1].toNat < 256 := s[j+1].toNat_lt
      have hxb : Hid (s[j+1].toNat ^^^ 0 = s[j+1].toNat) := by
        show _ = _
        rw [Nat.xor_zero]
      go_wp2_with fail
      go_round
      case rel => exact ⟨j + 1, by omega, by go_num, by rw [hst.out, hxb.out]; go_num⟩
      case measure => simp [intOf]; omega
    · obtain rfl : j = k := by omega
      have hb : Pl.val 0 (s.data.toList.tail.take j) 0 < 18446744073709551616 := val_bound 0 (by omega) _ j 8 hk8
      have hr := HR.out
      clear HR
      by_cases h2 : 9223372036854775695 < Pl.val 0 (s.data.toList.tail.take j) 0
      · rw [if_pos (Or.inr h2)] at hr
        obtain ⟨rfl, rfl, rfl⟩ : 0 = n ∧ 0 = z ∧ 3 = e := by simpa using hr
        clear hr
        go_wp2_with fail
        go_ret3
        exact ⟨rfl, Below.refl _ _⟩
      · have hsb : ∀ x, Pl.numB x = UInt8.ofNat ((239 + Pl.wid (Pl.val 0 (s.data.toList.tail.take j) 0)) ^^^ 0) :: Pl.be 0 (Pl.wid (Pl.val 0 (s.data.toList.tail.take j) 0)) (Pl.val 0 (s.data.toList.tail.take j) 0) → ((Pl.numB x = (s.extract 0 (j + 1)).toList) ↔ j ≤ Pl.wid (Pl.val 0 (s.data.toList.tail.take j) 0)) := by
          intro x hx
          rw [head_take s j h0]
          exact same_bytes 0 j _ (by omega) s[0] _ x (by simp; omega) rfl hk1 hx hck.out
        generalize Pl.val 0 (s.data.toList.tail.take j) 0 = m at *
        have hmb : m ≤ 9223372036854775695 := by omega
        have hnb : Hid (Pl.numB ((m : Int) + 112) = UInt8.ofNat ((239 + Pl.wid m) ^^^ 0) :: Pl.be 0 (Pl.wid m) m) := numB_far m
        have hiff := hsb _ hnb.out
        have hN : Hid (∀ w, Calls Try.prog 31 #[.int .i64 ((m : Int) + 112)] w (StrPost w.heap.size w (Pl.numB ((m : Int) + 112)))) := fun w => numR_any _ w (by omega) (by omega)
        clear hb hl hsb hck h2 hnb
        by_cases h3 : Pl.wid m < j
        · rw [if_pos (Or.inl h3)] at hr
          obtain ⟨rfl, rfl, rfl⟩ : 0 = n ∧ 0 = z ∧ 3 = e := by simpa using hr
          clear hr
          have hcmp : (Pl.numB ((m : Int) + 112) == (s.extract 0 (j + 1)).toList) = false := by
            rw [beq_eq_false_iff_ne]
            intro h
            have := hiff.1 h
            omega
          have hcmp2 : (!(Pl.numB ((m : Int) + 112) == (s.extract 0 (j + 1)).toList)) = true := by rw [hcmp]; rfl
          clear hiff
          go_wp2_with fail
          have q1 : IntKind.i64.wrap ((j : Int) + 1) = (j : Int) + 1 := IntWalk.i64_in _ (by omega)
          have q2 : (0 : Int) ≤ (j : Int) + 1 := by omega
          have q3 : ((j : Int) + 1).toNat = j + 1 := by omega
          go_region_with (go_at_call 31; refine (hN.out _).mono ?_; rintro e w' ⟨rfl, hb⟩)
          have HB : Hid (Below w.heap.size w w') := ((Below.refl _ _).drew).trans hb
          clear hb hN
          go_wp2
          go_ret3
          exact ⟨rfl, HB.out⟩
        · rw [if_neg (by omega)] at hr
          obtain ⟨rfl, rfl, rfl⟩ : (m : Int) + 112 = n ∧ (j : Int) + 1 = z ∧ 0 = e := by simpa using hr
          clear hr
          have hcmp : (Pl.numB ((m : Int) + 112) == (s.extract 0 (j + 1)).toList) = true := by
            rw [beq_iff_eq]
            exact hiff.2 (by omega)
          have hcmp2 : (!(Pl.numB ((m : Int) + 112) == (s.extract 0 (j + 1)).toList)) = false := by rw [hcmp]; rfl
          clear hiff
          go_wp2_with fail
          have q1 : IntKind.i64.wrap ((j : Int) + 1) = (j : Int) + 1 := IntWalk.i64_in _ (by omega)
          have q2 : (0 : Int) ≤ (j : Int) + 1 := by omega
          have q3 : ((j : Int) + 1).toNat = j + 1 := by omega
          go_region_with (go_at_call 31; refine (hN.out _).mono ?_; rintro e w' ⟨rfl, hb⟩)
          have HB : Hid (Below w.heap.size w w') := ((Below.refl _ _).drew).trans hb
          clear hb hN
          go_wp2
          go_ret3
          exact ⟨rfl, HB.out⟩
set_option maxRecDepth 100000 in
set_option maxHeartbeats 2000000 in
theorem readNumR_loopM (s : ByteArray) (k : Nat) (w : World) (h0 : 0 < s.size) (hsz : s.size ≤ 9223372036854775807) (hk1 : 1 ≤ k) (hk8 : k ≤ 8) (hk : k < s.size) (hc : 8 ≤ s[0].toNat) (hc2 : s[0].toNat < 16)
    (hl : Hid (Calls Try.prog 65 #[.int .u8 s[0].toNat] w fun e' w' => e' = .returned (.int .i64 k) ∧ w = w')) (hck : Hid (s[0] = UInt8.ofNat ((239 + k) ^^^ 255)))
    (n z e : Int) (hr : (if Pl.wid (Pl.val 255 (s.data.toList.tail.take k) 0) < k ∨ 9223372036854775695 < Pl.val 255 (s.data.toList.tail.take k) 0 then ((0, 0, 3) : Int × Int × Int) else (-113 - (Pl.val 255 (s.data.toList.tail.take k) 0 : Int), (k : Int) + 1, 0)) = (n, z, e)) :
    Calls Try.prog 60 #[.string s] w fun e' w' => e' = .returned (.tuple #[.int .i64 n, .int .i64 z, .int .i64 e]) ∧ Below w.heap.size w w' := by
  have HR := Lib.hid hr
  clear hr
  have h1 := empty_false s h0
  have hk0 : ((k : Int) == 0) = false := by simp; omega
  go_enter Try.func60, Try.ntmps60
  go_wp2_with (refine hl.out.mono ?_; rintro e w' ⟨rfl, rfl⟩)
  go_loop [6, 7] (fun m i => ∃ j : Nat, j ≤ k ∧ i = .int .i64 ((j : Int) + 1) ∧ m = .int .u64 (Pl.val 255 (s.data.toList.tail.take j) 0)) (fun _ i => k + 1 - (intOf i).toNat)
  case atStart => exact ⟨0, Nat.zero_le _, rfl, rfl⟩
  case round =>
    obtain ⟨j, hj, rfl, rfl⟩ := hrel
    by_cases hlt : j < k
    · have hi : j + 1 < s.size := by omega
      have hst : Hid (Pl.val 255 (s.data.toList.tail.take (j + 1)) 0 = 256 * Pl.val 255 (s.data.toList.tail.take j) 0 + (s[j+1].toNat ^^^ 255)) := by
        show _ = _
        rw [tail_take s j hi, Pl.val_snoc]
      have hv : Pl.val 255 (s.data.toList.tail.take j) 0 < 72057594037927936 := val_bound 255 (by omega) _ j 7 (by omega)
      have hb : s[j+1].toNat < 256 := s[j+1].toNat_lt
      have hxb : Hid (s[j+1].toNat ^^^ 255 = 255 - s[j+1].toNat) := by
        show _ = _
        exact not_byte ⟨_, hb⟩
      go_wp2_with fail
      go_round
      case rel => exact ⟨j + 1, by omega, by go_num, by rw [hst.out, hxb.out]; go_num⟩
      case measure => simp [intOf]; omega
    · obtain rfl : j = k := by omega
      have hb : Pl.val 255 (s.data.toList.tail.take j) 0 < 18446744073709551616 := val_bound 255 (by omega) _ j 8 hk8
      have hr := HR.out
      clear HR
      by_cases h2 : 9223372036854775695 < Pl.val 255 (s.data.toList.tail.take j) 0
      · rw [if_pos (Or.inr h2)] at hr
        obtain ⟨rfl, rfl, rfl⟩ : 0 = n ∧ 0 = z ∧ 3 = e := by simpa using hr
        clear hr
        go_wp2_with fail
        go_ret3
        exact ⟨rfl, Below.refl _ _⟩
      · have hsb : ∀ x, Pl.numB x = UInt8.ofNat ((239 + Pl.wid (Pl.val 255 (s.data.toList.tail.take j) 0)) ^^^ 255) :: Pl.be 255 (Pl.wid (Pl.val 255 (s.data.toList.tail.take j) 0)) (Pl.val 255 (s.data.toList.tail.take j) 0) → ((Pl.numB x = (s.extract 0 (j + 1)).toList) ↔ j ≤ Pl.wid (Pl.val 255 (s.data.toList.tail.take j) 0)) := by
          intro x hx
          rw [head_take s j h0]
          exact same_bytes 255 j _ (by omega) s[0] _ x (by simp; omega) rfl hk1 hx hck.out
        generalize Pl.val 255 (s.data.toList.tail.take j) 0 = m at *
        have hmb : m ≤ 9223372036854775695 := by omega
        have hnb : Hid (Pl.numB (-113 - (m : Int)) = UInt8.ofNat ((239 + Pl.wid m) ^^^ 255) :: Pl.be 255 (Pl.wid m) m) := numB_farM m
        have hiff := hsb _ hnb.out
        have hN : Hid (∀ w, Calls Try.prog 31 #[.int .i64 (-113 - (m : Int))] w (StrPost w.heap.size w (Pl.numB (-113 - (m : Int))))) := fun w => numR_any _ w (by omega) (by omega)
        clear hb hl hsb hck h2 hnb
        by_cases h3 : Pl.wid m < j
        · rw [if_pos (Or.inl h3)] at hr
          obtain ⟨rfl, rfl, rfl⟩ : 0 = n ∧ 0 = z ∧ 3 = e := by simpa using hr
          clear hr
          have hcmp : (Pl.numB (-113 - (m : Int)) == (s.extract 0 (j + 1)).toList) = false := by
            rw [beq_eq_false_iff_ne]
            intro h
            have := hiff.1 h
            omega
          have hcmp2 : (!(Pl.numB (-113 - (m : Int)) == (s.extract 0 (j + 1)).toList)) = true := by rw [hcmp]; rfl
          clear hiff
          go_wp2_with fail
          have q1 : IntKind.i64.wrap ((j : Int) + 1) = (j : Int) + 1 := IntWalk.i64_in _ (by omega)
          have q2 : (0 : Int) ≤ (j : Int) + 1 := by omega
          have q3 : ((j : Int) + 1).toNat = j + 1 := by omega
          go_region_with (go_at_call 31; refine (hN.out _).mono ?_; rintro e w' ⟨rfl, hb⟩)
          have HB : Hid (Below w.heap.size w w') := ((Below.refl _ _).drew).trans hb
          clear hb hN
          go_wp2
          go_ret3
          exact ⟨rfl, HB.out⟩
        · rw [if_neg (by omega)] at hr
          obtain ⟨rfl, rfl, rfl⟩ : -113 - (m : Int) = n ∧ (j : Int) + 1 = z ∧ 0 = e := by simpa using hr
          clear hr
          have hcmp : (Pl.numB (-113 - (m : Int)) == (s.extract 0 (j + 1)).toList) = true := by
            rw [beq_iff_eq]
            exact hiff.2 (by omega)
          have hcmp2 : (!(Pl.numB (-113 - (m : Int)) == (s.extract 0 (j + 1)).toList)) = false := by rw [hcmp]; rfl
          clear hiff
          go_wp2_with fail
          have q1 : IntKind.i64.wrap ((j : Int) + 1) = (j : Int) + 1 := IntWalk.i64_in _ (by omega)
          have q2 : (0 : Int) ≤ (j : Int) + 1 := by omega
          have q3 : ((j : Int) + 1).toNat = j + 1 := by omega
          go_region_with (go_at_call 31; refine (hN.out _).mono ?_; rintro e w' ⟨rfl, hb⟩)
          have HB : Hid (Below w.heap.size w w') := ((Below.refl _ _).drew).trans hb
          clear hb hN
          go_wp2
          go_ret3
          exact ⟨rfl, HB.out⟩
end Go.Proofs.Ytdjiknakbldggaa
