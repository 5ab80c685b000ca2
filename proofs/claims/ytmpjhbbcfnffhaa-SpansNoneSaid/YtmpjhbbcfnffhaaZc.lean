/-
  What the states met in order take: what the first automaton takes; how many they may be.
-/
import Derived.Test.YtmpjhbbcfnffhaaZb
namespace Go.Proofs.Ytmpjhbbcfnffhaa
namespace Au
variable {σ τ : Type}

/-- What a row of arcs says of a state, where the states that were met are these. -/
structure Told (W : Walk σ) (met : List σ) (s : σ) (c : Nat) (arcs : List Arc) : Prop where
  row : Row met.length c arcs
  look : ∀ x, x < c → look arcs (x : Int) = (W.go s x).map (fun n => ((find W.same met n : Nat) : Int))
  found : ∀ x n, x < c → W.go s x = some n → find W.same met n < met.length
theorem Told.more {W : Walk σ} {met : List σ} {s : σ} {c : Nat} {arcs : List Arc} (h : Told W met s c arcs) (r : List σ) : Told W (met ++ r) s c arcs where
  row := h.row.mono (by simp) (Int.le_refl _)
  look := fun x hx => by
    rw [h.look x hx]
    cases hg : W.go s x with
    | none => rfl
    | some n =>
      simp only [Option.map_some]
      rw [find_append _ _ _ _ (h.found x n hx hg)]
  found := fun x n hx hg => by
    have := h.found x n hx hg
    rw [find_append _ _ _ _ this, List.length_append]
    omega
theorem bytes_told (W : Walk σ) (hr : ∀ s, W.same s s = true) (s : σ) (met : List σ) (c : Nat) : Told W (W.bytes s met c).1 s c (W.bytes s met c).2 := by
  induction c with
  | zero => exact ⟨Row.nil _ _, fun x hx => by omega, fun x n hx => by omega⟩
  | succ c ih =>
    simp only [Walk.bytes]
    generalize W.bytes s met c = p at *
    unfold Walk.byte
    cases hg : W.go s c with
    | none =>
      refine ⟨ih.row.mono (Nat.le_refl _) (by omega), fun x hx => ?_, fun x n hx hn => ?_⟩
      · by_cases hxc : x = c
        · subst hxc
          rw [hg, look_above ih.row _ (Int.le_refl _)]
          rfl
        · exact ih.look x (by omega)
      · by_cases hxc : x = c
        · subst hxc
          rw [hg] at hn
          cases hn
        · exact ih.found x n (by omega) hn
    | some n =>
      dsimp only
      have key : ∀ met' : List σ, (∃ r, met' = p.1 ++ r) → find W.same met' n = find W.same p.1 n → find W.same p.1 n < met'.length → Told W met' s (c + 1) (grown p.2 c (find W.same p.1 n)) := by
        rintro met' ⟨r, rfl⟩ h1 h2
        have ih' := ih.more r
        have hrow : Row (p.1 ++ r).length ((c : Int) + 1) (grown p.2 c (find W.same p.1 n)) := grown_row ih'.row h2
        refine ⟨hrow, fun x hx => ?_, fun x m hx hm => ?_⟩
        · rw [grown_look ih'.row]
          by_cases hxc : x = c
          · subst hxc
            rw [if_pos rfl, hg, Option.map_some, h1]
          · rw [if_neg (by omega)]
            exact ih'.look x (by omega)
        · by_cases hxc : x = c
          · subst hxc
            rw [hg] at hm
            cases hm
            rw [h1]
            exact h2
          · exact ih'.found x m (by omega) hm
      by_cases hf : find W.same p.1 n = p.1.length
      · rw [if_pos hf]
        refine key _ ⟨[n], rfl⟩ ?_ ?_
        · rw [find_snoc _ hr _ _ hf, hf]
        · rw [hf]; simp
      · rw [if_neg hf]
        have := find_le W.same p.1 n
        exact key _ ⟨[], by simp⟩ rfl (by omega)

/-- Each state that has been told of. -/
theorem states_told (W : Walk σ) (hr : ∀ s, W.same s s = true) (s : σ) (i k : Nat) (hk : k < (W.out s i).length) :
    ∃ a arcs, (W.met s i)[k]? = some a ∧ (W.out s i)[k]? = some ⟨W.fin a, arcs⟩ ∧ Told W (W.met s i) a 256 arcs := by
  induction i with
  | zero => simp [Walk.out, Walk.states] at hk
  | succ i ih =>
    have hol := out_length W s i
    unfold Walk.out Walk.met at *
    simp only [Walk.states] at hk ⊢
    cases hi : (W.states s i).1[i]? with
    | none =>
      rw [hi] at hk
      exact ih hk
    | some b =>
      rw [hi] at hk
      dsimp only at hk ⊢
      obtain ⟨r, hbr⟩ := bytes_grows W b (W.states s i).1 256
      have hilt : i < (W.states s i).1.length := (List.getElem?_eq_some_iff.1 hi).1
      have hoi : (W.states s i).2.length = i := by omega
      by_cases hki : k < (W.states s i).2.length
      · obtain ⟨a, arcs, h1, h2, h3⟩ := ih hki
        have hkm : k < (W.states s i).1.length := (List.getElem?_eq_some_iff.1 h1).1
        refine ⟨a, arcs, ?_, ?_, ?_⟩
        · rw [hbr, List.getElem?_append_left hkm]
          exact h1
        · rw [List.getElem?_append_left hki]
          exact h2
        · rw [hbr]
          exact h3.more r
      · rw [List.length_append] at hk
        simp only [List.length_cons, List.length_nil] at hk
        have e : k = i := by omega
        subst e
        refine ⟨b, _, ?_, ?_, bytes_told W hr b (W.states s k).1 256⟩
        · rw [hbr, List.getElem?_append_left hilt]
          exact hi
        · rw [List.getElem?_append_right (by omega), hoi, Nat.sub_self]
          rfl

/-- A walk that goes as an automaton does, but for states from which nothing is taken. -/
structure Fair (W : Walk σ) (A : Auto σ) : Prop where
  fin : ∀ s, W.fin s = A.fin s
  go : ∀ s c, (W.go s c = none ∧ Dead A (A.step s c)) ∨ ∃ t, W.go s c = some t ∧ A.step s c = some t
  refl : ∀ s, W.same s s = true
  same : ∀ s t, W.same s t = true → Eqv A A s t
  top : ∀ s c, 256 ≤ c → Dead A (A.step s c)

theorem Fair.takes {W : Walk σ} {A : Auto σ} (h : Fair W A) (s : σ) (i : Nat) (hd : W.Done s i) (w : List Nat) (k : Nat) (a : σ) (hk : (W.met s i)[k]? = some a) : (ofL (W.out s i)).acc (some k) w = A.acc (some a) w := by
  have hol := out_length W s i
  unfold Walk.Done at hd
  have hkl : k < (W.met s i).length := (List.getElem?_eq_some_iff.1 hk).1
  induction w generalizing k a with
  | nil =>
    obtain ⟨b, arcs, h1, h2, _⟩ := states_told W h.refl s i k (by omega)
    rw [hk] at h1
    cases h1
    simp only [acc_nil, ofL, h2]
    exact h.fin a
  | cons c w ih =>
    obtain ⟨b, arcs, h1, h2, h3⟩ := states_told W h.refl s i k (by omega)
    rw [hk] at h1
    cases h1
    rw [acc_cons, acc_cons]
    have hs : (ofL (W.out s i)).step k c = (look arcs c).map Int.toNat := by
      simp only [ofL, h2]
    rw [hs]
    by_cases hc : c < 256
    · rw [h3.look c hc]
      rcases h.go a c with ⟨g1, g2⟩ | ⟨t, g1, g2⟩
      · rw [g1, Option.map_none, Option.map_none, acc_none]
        exact (g2 w).symm
      · have hf := h3.found c t hc g1
        rw [g1, Option.map_some, Option.map_some, Int.toNat_natCast, g2, ih _ ((W.met s i)[find W.same (W.met s i) t]) (List.getElem?_eq_getElem hf) hf]
        exact h.same _ _ (find_hit W.same (W.met s i) t hf) w
    · have : look arcs (c : Int) = none := look_above h3.row _ (by omega)
      rw [this]
      simp only [Option.map_none, acc_none]
      exact (h.top a c (by omega) w).symm

theorem fair_walk (A : Auto σ) (top : ∀ s c, 256 ≤ c → A.step s c = none) : Fair A.walk A where
  fin := fun _ => rfl
  go := fun s c => by
    show (A.go s c = none ∧ _) ∨ ∃ t, A.go s c = some t ∧ _
    cases h : A.go s c with
    | none => exact .inl ⟨rfl, go_none h⟩
    | some t => exact .inr ⟨t, rfl, (go_some h).1⟩
  refl := fun s => (same_iff A s s).2 (Eqv.refl A s)
  same := fun s t h => (same_iff A s t).1 h
  top := fun s c h w => by rw [top s c h]; exact acc_none A w

/-- The states met are no two the same. -/
theorem byte_pair (W : Walk σ) (s : σ) (c : Nat) (p : List σ × List Arc) (h : p.1.Pairwise (fun a b => W.same a b = false)) : (W.byte s c p).1.Pairwise (fun a b => W.same a b = false) := by
  unfold Walk.byte
  split
  · exact h
  · rename_i n hn
    dsimp only
    split
    · rename_i hf
      rw [List.pairwise_append]
      refine ⟨h, List.pairwise_singleton _ _, fun a ha b hb => ?_⟩
      rw [List.mem_singleton] at hb
      subst hb
      obtain ⟨k, hk, rfl⟩ := List.getElem_of_mem ha
      exact (find_miss W.same p.1 b k (by omega)).2
    · exact h
theorem bytes_pair (W : Walk σ) (s : σ) (m : List σ) (c : Nat) (h : m.Pairwise (fun a b => W.same a b = false)) : (W.bytes s m c).1.Pairwise (fun a b => W.same a b = false) := by
  induction c with
  | zero => exact h
  | succ c ih => exact byte_pair W s c _ ih
theorem met_pair (W : Walk σ) (s : σ) (i : Nat) : (W.met s i).Pairwise (fun a b => W.same a b = false) := by
  induction i with
  | zero => exact List.pairwise_singleton _ _
  | succ i ih =>
    unfold Walk.met at *
    simp only [Walk.states]
    split
    · exact ih
    · exact bytes_pair W _ _ 256 ih
/-- They are all of a set that is never left. -/
theorem byte_all (W : Walk σ) (P : σ → Prop) (hP : ∀ s c t, P s → W.go s c = some t → P t) (s : σ) (hs : P s) (c : Nat) (p : List σ × List Arc) (h : ∀ x ∈ p.1, P x) : ∀ x ∈ (W.byte s c p).1, P x := by
  unfold Walk.byte
  split
  · exact h
  · rename_i n hn
    dsimp only
    split
    · intro x hx
      rw [List.mem_append, List.mem_singleton] at hx
      rcases hx with hx | rfl
      · exact h x hx
      · exact hP s c x hs hn
    · exact h
theorem bytes_all (W : Walk σ) (P : σ → Prop) (hP : ∀ s c t, P s → W.go s c = some t → P t) (s : σ) (hs : P s) (m : List σ) (c : Nat) (h : ∀ x ∈ m, P x) : ∀ x ∈ (W.bytes s m c).1, P x := by
  induction c with
  | zero => exact h
  | succ c ih => exact byte_all W P hP s hs c _ ih
theorem met_all (W : Walk σ) (P : σ → Prop) (hP : ∀ s c t, P s → W.go s c = some t → P t) (s : σ) (hs : P s) (i : Nat) : ∀ x ∈ W.met s i, P x := by
  induction i with
  | zero =>
    intro x hx
    have : x = s := by simpa [Walk.met, Walk.states] using hx
    rw [this]
    exact hs
  | succ i ih =>
    unfold Walk.met at *
    simp only [Walk.states]
    split
    · exact ih
    · rename_i a ha
      exact bytes_all W P hP a (ih a (List.mem_of_getElem? ha)) _ 256 ih
/-- No more of them than numbers that tell them apart. -/
theorem met_few (W : Walk σ) (hr : ∀ s, W.same s s = true) (f : σ → Nat) (n : Nat) (P : σ → Prop) (hP : ∀ s c t, P s → W.go s c = some t → P t) (s : σ) (hs : P s) (hf : ∀ x, P x → f x < n) (hi : ∀ x y, P x → P y → f x = f y → x = y) (i : Nat) : (W.met s i).length ≤ n := by
  have h1 := met_pair W s i
  have h2 := met_all W P hP s hs i
  have hn : ((W.met s i).map f).Nodup := by
    unfold List.Nodup
    rw [List.pairwise_map]
    refine List.Pairwise.imp_of_mem (fun {a b} ha hb hab e => ?_) h1
    have := hi a b (h2 a ha) (h2 b hb) e
    subst this
    rw [hr] at hab
    cases hab
  have hsub : (W.met s i).map f ⊆ List.range n := fun x hx => by
    obtain ⟨a, ha, rfl⟩ := List.mem_map.1 hx
    exact List.mem_range.2 (hf a (h2 a ha))
  have := hn.length_le_of_subset hsub
  simpa using this

end Au
end Go.Proofs.Ytmpjhbbcfnffhaa
