/-
  Lists of states: which are automata; the least one of one; of what two take.
-/
import Derived.Test.YtmpjhbbcfnffhaaZc
namespace Go.Proofs.Ytmpjhbbcfnffhaa
namespace Au
variable {σ τ : Type}

/-- A list of states is an automaton. -/
structure Fits (d : List St) : Prop where
  pos : 0 < d.length
  top : d.length ≤ 20000
  row : ∀ i (h : i < d.length), Row d.length 256 d[i].arcs

theorem look_in {n : Nat} {l : List Arc} (h : ∀ k (h : k < l.length), 0 ≤ l[k].to ∧ l[k].to < n) {x t : Int} (hx : look l x = some t) : 0 ≤ t ∧ t < n := by
  induction l with
  | nil => cases hx
  | cons a r ih =>
    simp only [look] at hx
    split at hx
    · cases hx
      exact h 0 (by simp)
    · exact ih (fun k hk => by have := h (k + 1) (by simp; omega); simpa using this) hx
theorem ofL_top {d : List St} (hr : ∀ i (h : i < d.length), Row d.length 256 d[i].arcs) (s c : Nat) (hc : 256 ≤ c) : (ofL d).step s c = none := by
  simp only [ofL]
  split
  · rfl
  · rename_i a ha
    obtain ⟨hl, rfl⟩ := List.getElem?_eq_some_iff.1 ha
    rw [look_above (hr s hl) _ (by omega)]
    rfl
theorem ofL_in {d : List St} (hr : ∀ i (h : i < d.length), Row d.length 256 d[i].arcs) {s c t : Nat} (h : (ofL d).step s c = some t) : t < d.length := by
  simp only [ofL] at h
  split at h
  · cases h
  · rename_i a ha
    obtain ⟨hl, rfl⟩ := List.getElem?_eq_some_iff.1 ha
    cases hx : look d[s].arcs c with
    | none => rw [hx] at h; cases h
    | some u =>
      rw [hx] at h
      cases h
      have := look_in (n := d.length) (fun k hk => by have := (hr s hl).1 k hk; omega) hx
      omega

/-- The least automaton that takes the same. -/
noncomputable def least (d : List St) : List St := (ofL d).walk.out 0 d.length
theorem go_in {d : List St} (hr : ∀ i (h : i < d.length), Row d.length 256 d[i].arcs) (s c t : Nat) (_ : s < d.length) (h : (ofL d).walk.go s c = some t) : t < d.length := ofL_in hr (go_some h).1
theorem least_done {d : List St} (h0 : 0 < d.length) (hr : ∀ i (h : i < d.length), Row d.length 256 d[i].arcs) : (ofL d).walk.Done 0 d.length :=
  met_few (ofL d).walk (fair_walk _ (ofL_top hr)).refl id d.length (fun x => x < d.length) (go_in hr) 0 h0 (fun _ h => h) (fun _ _ _ _ h => h) d.length
/-- Walks that meet the same make the same. -/
theorem alike_out {A : Auto σ} {B : Auto τ} {s : σ} {t : τ} (h : Eqv A B s t) {i j : Nat} (hi : A.walk.Done s i) (hj : B.walk.Done t j) : A.walk.out s i = B.walk.out t j := by
  have h1 := (walk_alike A B).states h i
  have hd : B.walk.Done t i := by
    unfold Walk.Done Walk.met at *
    rw [← h1.1.length]
    exact hi
  have h2 := done_same B.walk t i j hd hj
  unfold Walk.out
  rw [h1.2, h2]
theorem out_pos (W : Walk σ) (s : σ) (i : Nat) : 0 < (W.met s i).length := by
  obtain ⟨r, h⟩ := met_mono W s 0 i
  rw [Nat.zero_add] at h
  rw [h]
  simp [Walk.met, Walk.states]
theorem out_rows (W : Walk σ) (hr : ∀ s, W.same s s = true) (s : σ) (i : Nat) (hd : W.Done s i) : 0 < (W.out s i).length ∧ ∀ k (h : k < (W.out s i).length), Row (W.out s i).length 256 (W.out s i)[k].arcs := by
  have hol := out_length W s i
  have h0 := out_pos W s i
  unfold Walk.Done at hd
  have hl : (W.out s i).length = (W.met s i).length := by omega
  refine ⟨by omega, fun k hk => ?_⟩
  obtain ⟨a, arcs, h1, h2, h3⟩ := states_told W hr s i k hk
  obtain ⟨_, h4⟩ := List.getElem?_eq_some_iff.1 h2
  rw [h4, hl]
  exact h3.row
theorem start_first (W : Walk σ) (s : σ) (i : Nat) : (W.met s i)[0]? = some s := by
  obtain ⟨r, h⟩ := met_mono W s 0 i
  rw [Nat.zero_add] at h
  rw [h]
  simp [Walk.met, Walk.states]
/-- It takes the same. -/
theorem Fair.eqv {W : Walk σ} {A : Auto σ} (h : Fair W A) (s : σ) (i : Nat) (hd : W.Done s i) : Eqv (ofL (W.out s i)) A 0 s := fun w => h.takes s i hd w 0 s (start_first W s i)
theorem least_eqv {d : List St} (h0 : 0 < d.length) (hr : ∀ i (h : i < d.length), Row d.length 256 d[i].arcs) : Eqv (ofL (least d)) (ofL d) 0 0 :=
  (fair_walk _ (ofL_top hr)).eqv 0 d.length (least_done h0 hr)
theorem least_le (d : List St) : (least d).length ≤ d.length := by
  have := out_length (ofL d).walk 0 d.length
  unfold least
  omega
theorem least_fits {d : List St} (h : Fits d) : Fits (least d) := by
  obtain ⟨h1, h2⟩ := out_rows (ofL d).walk (fair_walk _ (ofL_top h.row)).refl 0 d.length (least_done h.pos h.row)
  exact ⟨h1, Nat.le_trans (least_le d) h.top, h2⟩
/-- What takes the same has the same least automaton. -/
theorem least_of_eqv {A : Auto σ} {s : σ} {d : List St} (h0 : 0 < d.length) (hr : ∀ i (h : i < d.length), Row d.length 256 d[i].arcs) (h : Eqv A (ofL d) s 0) {i : Nat} (hi : A.walk.Done s i) : A.walk.out s i = least d :=
  alike_out h hi (least_done h0 hr)
theorem least_congr {d e : List St} (h0 : 0 < d.length) (hr : ∀ i (h : i < d.length), Row d.length 256 d[i].arcs) (g0 : 0 < e.length) (gr : ∀ i (h : i < e.length), Row e.length 256 e[i].arcs) (h : Eqv (ofL d) (ofL e) 0 0) : least d = least e :=
  alike_out h (least_done h0 hr) (least_done g0 gr)
theorem least_least {d : List St} (h : Fits d) : least (least d) = least d :=
  least_congr (least_fits h).pos (least_fits h).row h.pos h.row (least_eqv h.pos h.row)

/-- A walk that takes each state as itself. -/
def Auto.plain [DecidableEq σ] (A : Auto σ) : Walk σ := ⟨A.step, fun a b => decide (a = b), A.fin⟩
theorem plain_fair [DecidableEq σ] (A : Auto σ) (top : ∀ s c, 256 ≤ c → A.step s c = none) : Fair A.plain A where
  fin := fun _ => rfl
  go := fun s c => by
    show (A.step s c = none ∧ _) ∨ ∃ t, A.step s c = some t ∧ _
    cases h : A.step s c with
    | none => exact .inl ⟨rfl, acc_none A⟩
    | some t => exact .inr ⟨t, rfl, rfl⟩
  refl := fun s => decide_eq_true rfl
  same := fun s t h => by
    have := of_decide_eq_true h
    rw [this]
    exact Eqv.refl A t
  top := fun s c h w => by rw [top s c h]; exact acc_none A w

/-- Both at once. -/
def pair (A : Auto σ) (B : Auto τ) : Auto (σ × τ) where
  step := fun p c => match A.step p.1 c, B.step p.2 c with
    | some s, some t => some (s, t)
    | _, _ => none
  fin := fun p => A.fin p.1 && B.fin p.2
theorem pair_acc (A : Auto σ) (B : Auto τ) (s : σ) (t : τ) (w : List Nat) : (pair A B).acc (some (s, t)) w = (A.acc (some s) w && B.acc (some t) w) := by
  induction w generalizing s t with
  | nil => rfl
  | cons c w ih =>
    rw [acc_cons, acc_cons, acc_cons]
    simp only [pair]
    cases h1 : A.step s c with
    | none =>
      simp only [acc_none, Bool.false_and]
    | some s' =>
      cases h2 : B.step t c with
      | none => simp only [acc_none, Bool.and_false]
      | some t' => exact ih s' t'
theorem pair_top {a b : List St} (ha : ∀ i (h : i < a.length), Row a.length 256 a[i].arcs) (s : Nat × Nat) (c : Nat) (hc : 256 ≤ c) : (pair (ofL a) (ofL b)).step s c = none := by
  simp only [pair]
  rw [ofL_top ha _ _ hc]
theorem pair_few {a b : List St} (ha : ∀ i (h : i < a.length), Row a.length 256 a[i].arcs) (hb : ∀ i (h : i < b.length), Row b.length 256 b[i].arcs) (h0 : 0 < a.length) (g0 : 0 < b.length) (i : Nat) : ((pair (ofL a) (ofL b)).plain.met (0, 0) i).length ≤ a.length * b.length := by
  refine met_few _ (plain_fair _ (pair_top ha)).refl (fun p => p.1 * b.length + p.2) (a.length * b.length) (fun p => p.1 < a.length ∧ p.2 < b.length) ?_ (0, 0) ⟨h0, g0⟩ ?_ ?_ i
  · rintro ⟨s, t⟩ c ⟨s', t'⟩ _ h
    have h : (pair (ofL a) (ofL b)).step (s, t) c = some (s', t') := h
    simp only [pair] at h
    split at h
    · rename_i x y e1 e2
      cases h
      exact ⟨ofL_in ha e1, ofL_in hb e2⟩
    · cases h
  · rintro ⟨s, t⟩ ⟨h1, h2⟩
    dsimp only at *
    calc s * b.length + t < s * b.length + b.length := by omega
      _ = (s + 1) * b.length := by rw [Nat.add_mul, Nat.one_mul]
      _ ≤ _ := Nat.mul_le_mul_right _ (by omega)
  · rintro ⟨s, t⟩ ⟨s', t'⟩ ⟨h1, h2⟩ ⟨h3, h4⟩ e
    dsimp only at *
    have e1 : s = s' := by
      have h5 : (s * b.length + t) / b.length = (s' * b.length + t') / b.length := by rw [e]
      rw [Nat.mul_comm s, Nat.mul_comm s', Nat.mul_add_div g0, Nat.mul_add_div g0, Nat.div_eq_of_lt h2, Nat.div_eq_of_lt h4] at h5
      omega
    subst e1
    have : t = t' := by omega
    rw [this]

/-- The pairs that are met of two. -/
def pairs (a b : List St) : Nat := ((pair (ofL a) (ofL b)).plain.met (0, 0) (a.length * b.length)).length
/-- They, as an automaton. -/
def meets (a b : List St) : List St := (pair (ofL a) (ofL b)).plain.out (0, 0) (a.length * b.length)
theorem pairs_done {a b : List St} (ha : ∀ i (h : i < a.length), Row a.length 256 a[i].arcs) (hb : ∀ i (h : i < b.length), Row b.length 256 b[i].arcs) (h0 : 0 < a.length) (g0 : 0 < b.length) : (pair (ofL a) (ofL b)).plain.Done (0, 0) (a.length * b.length) := pair_few ha hb h0 g0 _
theorem meets_rows {a b : List St} (h : Fits a) (g : Fits b) : 0 < (meets a b).length ∧ ∀ k (h : k < (meets a b).length), Row (meets a b).length 256 (meets a b)[k].arcs :=
  out_rows _ (plain_fair _ (pair_top h.row)).refl _ _ (pairs_done h.row g.row h.pos g.pos)
theorem meets_eqv {a b : List St} (h : Fits a) (g : Fits b) : Eqv (ofL (meets a b)) (pair (ofL a) (ofL b)) 0 (0, 0) :=
  (plain_fair _ (pair_top h.row)).eqv _ _ (pairs_done h.row g.row h.pos g.pos)
theorem meets_len (a b : List St) : (meets a b).length ≤ pairs a b := by
  have := out_length (pair (ofL a) (ofL b)).plain (0, 0) (a.length * b.length)
  unfold meets pairs
  omega
/-- What both take. -/
theorem both_takes {a b : List St} (h : Fits a) (g : Fits b) (w : List Nat) : (ofL (least (meets a b))).acc (some 0) w = ((ofL a).acc (some 0) w && (ofL b).acc (some 0) w) := by
  obtain ⟨h1, h2⟩ := meets_rows h g
  rw [least_eqv h1 h2 w, meets_eqv h g w, pair_acc]
/-- Both of one and itself: its least. -/
theorem both_self {a : List St} (h : Fits a) : least (meets a a) = least a := by
  obtain ⟨h1, h2⟩ := meets_rows h h
  exact least_congr h1 h2 h.pos h.row fun w => by
    rw [meets_eqv h h w, pair_acc, Bool.and_self]

end Au
end Go.Proofs.Ytmpjhbbcfnffhaa
