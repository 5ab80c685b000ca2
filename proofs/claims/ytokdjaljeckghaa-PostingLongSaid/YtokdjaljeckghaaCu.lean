/-
  A cursor: its tower, New, Next, Advance and Post, put together.
-/
import Derived.Test.YtokdjaljeckghaaPd
import Derived.Test.YtokdjaljeckghaaPj
import Derived.Lib.SliceRun
import Derived.Test.YtokdjaljeckghaaPt
import Derived.Test.YtokdjaljeckghaaPs
/-
  A tower over rising numbers, plainly: what its floors hold, how far one is from the end of a search.
-/
namespace Go.Proofs.Ytokdjaljeckghaa
open Go.RowKit
namespace Pt
/-- The floor above: the last one of each full row. -/
def abv (l : List Int) : List Int := (List.range (l.length / 8)).map fun k => l.getD (8 * k + 7) 0
theorem abv_length (l : List Int) : (abv l).length = l.length / 8 := by unfold abv; rw [List.length_map, List.length_range]
theorem abv_get (l : List Int) (k : Nat) (h : k < (abv l).length) (h2 : 8 * k + 7 < l.length) : (abv l)[k] = l[8 * k + 7] := by
  simp only [abv, List.getElem_map, List.getElem_range]
  exact getD_at l _ h2
/-- Floor upon floor. -/
structure Tow (foot : List Int) (T : List (List Int)) : Prop where
  pos : 0 < T.length
  foot : T[0] = foot
  up : ∀ i (h : i + 1 < T.length), T[i + 1] = abv (T[i]'(by omega))
theorem tow_one (foot : List Int) : Tow foot [foot] := ⟨by simp, rfl, fun i h => by simp at h⟩
theorem Tow.snoc {foot : List Int} {T : List (List Int)} (h : Tow foot T) : Tow foot (T ++ [abv (T[T.length - 1]'(by have := h.pos; omega))]) := by
  have hp := h.pos
  refine ⟨by simp, ?_, fun i hi => ?_⟩
  · rw [List.getElem_append_left hp]
    exact h.foot
  · rw [List.length_append, List.length_singleton] at hi
    by_cases e : i + 1 < T.length
    · rw [List.getElem_append_left e, List.getElem_append_left (by omega)]
      exact h.up i e
    · obtain rfl : i = T.length - 1 := by omega
      rw [List.getElem_append_left (show T.length - 1 < T.length by omega), List.getElem_append_right (by omega)]
      simp [show T.length - 1 + 1 - T.length = 0 by omega]
theorem Tow.at {foot : List Int} {T : List (List Int)} (h : Tow foot T) : ∀ (f : Nat) (hf : f < T.length) (p : Nat) (hp : p < T[f].length), ∃ hb : (p + 1) * 8 ^ f - 1 < foot.length, (p + 1) * 8 ^ f ≤ foot.length ∧ T[f][p] = foot[(p + 1) * 8 ^ f - 1]
  | 0, hf, p, hp => by
    have e := h.foot
    have hp' : p < foot.length := by rw [← e]; exact hp
    refine ⟨by rw [Nat.pow_zero]; omega, by rw [Nat.pow_zero]; omega, ?_⟩
    simp only [e, Nat.pow_zero, Nat.mul_one, Nat.add_sub_cancel]
  | f + 1, hf, p, hp => by
    have e := h.up f hf
    have hp2 : p < (abv (T[f]'(by omega))).length := by rw [← e]; exact hp
    have hl := abv_length (T[f]'(by omega))
    have h8 : 8 * p + 7 < (T[f]'(by omega)).length := by omega
    obtain ⟨q1, q2, q3⟩ := h.at f (by omega) (8 * p + 7) h8
    have em : (8 * p + 7 + 1) * 8 ^ f = (p + 1) * 8 ^ (f + 1) := by
      rw [Nat.pow_succ, show 8 * p + 7 + 1 = (p + 1) * 8 by omega, Nat.mul_assoc, Nat.mul_comm 8]
    refine ⟨by rw [← em]; exact q1, by rw [← em]; exact q2, ?_⟩
    have e3 : T[f + 1][p] = (abv (T[f]'(by omega)))[p] := by simp only [e]
    rw [e3, abv_get _ _ hp2 h8, q3]
    congr 1
    rw [em]
/-- Where a search stands: all from its start up to here is below. -/
structure Sk (foot : List Int) (x : Int) (k0 f p : Nat) : Prop where
  low : k0 ≤ p * 8 ^ f
  high : p * 8 ^ f ≤ foot.length
  below : ∀ i (_ : i < foot.length), k0 ≤ i → i < p * 8 ^ f → foot[i] < x
theorem Sk.start {foot : List Int} {x : Int} {k0 : Nat} (h : k0 ≤ foot.length) : Sk foot x k0 0 k0 := ⟨by simp, by simpa using h, fun i _ h1 h2 => by simp at h2; omega⟩
theorem Sk.up {foot : List Int} {x : Int} {k0 f p : Nat} (h : Sk foot x k0 f p) (h8 : p % 8 = 0) : Sk foot x k0 (f + 1) (p / 8) := by
  have e : p / 8 * 8 ^ (f + 1) = p * 8 ^ f := by
    rw [Nat.pow_succ, Nat.mul_comm (8 ^ f), ← Nat.mul_assoc, show p / 8 * 8 = p by omega]
  exact ⟨by rw [e]; exact h.low, by rw [e]; exact h.high, fun i hi h1 h2 => h.below i hi h1 (by rw [← e]; exact h2)⟩
theorem Sk.down {foot : List Int} {x : Int} {k0 f p : Nat} (h : Sk foot x k0 (f + 1) p) : Sk foot x k0 f (p * 8) := by
  have e : p * 8 * 8 ^ f = p * 8 ^ (f + 1) := by rw [Nat.pow_succ, Nat.mul_assoc, Nat.mul_comm 8]
  exact ⟨by rw [e]; exact h.low, by rw [e]; exact h.high, fun i hi h1 h2 => h.below i hi h1 (by rw [← e]; exact h2)⟩
theorem Sk.next {foot : List Int} {T : List (List Int)} {x : Int} {k0 f p : Nat} (h : Sk foot x k0 f p) (hT : Tow foot T) (hs : ∀ i j (_ : i < foot.length) (_ : j < foot.length), i < j → foot[i] < foot[j]) (hf : f < T.length) (hp : p < T[f].length) (hx : T[f][p] < x) : Sk foot x k0 f (p + 1) := by
  obtain ⟨q1, q2, q3⟩ := hT.at f hf p hp
  have h8 : 0 < 8 ^ f := Nat.pow_pos (by decide)
  have e : (p + 1) * 8 ^ f = p * 8 ^ f + 8 ^ f := Nat.succ_mul ..
  refine ⟨by have := h.low; omega, q2, fun i hi h1 h2 => ?_⟩
  rw [q3] at hx
  by_cases e2 : i = (p + 1) * 8 ^ f - 1
  · subst e2
    exact hx
  · have := hs i ((p + 1) * 8 ^ f - 1) hi q1 (by omega)
    omega
theorem Sk.found {d : List Po} {T : List (List Int)} {x : Int} {k0 p : Nat} (h : Sk (d.map Po.doc) x k0 0 p) (hT : Tow (d.map Po.doc) T) (hn : ∀ hp : p < (T[0]'hT.pos).length, x ≤ (T[0]'hT.pos)[p]) : adv d x k0 = p := by
  have e := hT.foot
  have hl := h.low
  have hh := h.high
  rw [Nat.pow_zero, Nat.mul_one] at hl hh
  rw [List.length_map] at hh
  refine adv_eq hl hh (fun i hi h1 h2 => ?_) (fun hp => ?_)
  · have := h.below i (by rw [List.length_map]; exact hi) h1 (by rw [Nat.pow_zero, Nat.mul_one]; exact h2)
    rwa [List.getElem_map] at this
  · have := hn (by rw [e, List.length_map]; exact hp)
    simp only [e, List.getElem_map] at this
    exact this
/-- What is left of a search. -/
def left (H n f p : Nat) (up : Bool) : Nat := (n - p * 8 ^ f) + if up then 2 * H + 1 - f else f
theorem left_up {H n f p : Nat} (hf : f + 1 < H) (h8 : p % 8 = 0) : left H n (f + 1) (p / 8) true < left H n f p true := by
  have e : p / 8 * 8 ^ (f + 1) = p * 8 ^ f := by
    rw [Nat.pow_succ, Nat.mul_comm (8 ^ f), ← Nat.mul_assoc, show p / 8 * 8 = p by omega]
  unfold left
  rw [e]
  simp
  omega
theorem left_down {H n f p : Nat} (up : Bool) (hf : f + 1 < H) : left H n f (p * 8) false < left H n (f + 1) p up := by
  have e : p * 8 * 8 ^ f = p * 8 ^ (f + 1) := by rw [Nat.pow_succ, Nat.mul_assoc, Nat.mul_comm 8]
  unfold left
  rw [e]
  cases up <;> simp <;> omega
theorem left_next {H n f p : Nat} (up : Bool) (h : (p + 1) * 8 ^ f ≤ n) : left H n f (p + 1) up < left H n f p up := by
  have h8 : 0 < 8 ^ f := Nat.pow_pos (by decide)
  have e : (p + 1) * 8 ^ f = p * 8 ^ f + 8 ^ f := Nat.succ_mul ..
  unfold left
  omega
end Pt
end Go.Proofs.Ytokdjaljeckghaa
/-
  A tower in memory: lists of numbers in a list; slices.Clone of numbers; a floor above, all floors.
-/
namespace Go.Proofs.Ytokdjaljeckghaa
open Go.RowKit
set_option maxHeartbeats 2000000 in
set_option maxRecDepth 100000 in
theorem clone_any {F : Nat → Prop} (w : World) (v : Value) (l : List Int) (h : IntF F w v l) (hl : l.length ≤ 1073741824) :
    Calls Try.prog 36 #[v] w fun e w' => ∃ v', e = .returned v' ∧ OwnI w' w.heap.size v' l ∧ Below w.heap.size w w' := by
  obtain ⟨a, cap, rfl, _, hcp, hc⟩ := id h
  have q := fun (w : World) (a : Option Addr) (n c n' c' : Nat) => Lib.run_eql_slice_nil (P := Try.prog) w 38 3 a n c n' c' Try.underlying38
  cases a with
  | none =>
    have h0 : l = [] := by
      rcases Nat.eq_zero_or_pos l.length with h0 | h0
      · exact List.length_eq_zero_iff.1 h0
      · obtain ⟨g, o, hh, _⟩ := hc h0
        cases hh
    subst h0
    clear hc h
    go_enter Try.func36, Try.ntmps36
    go_wp2_with fail
    go_ret
    exact ⟨_, rfl, OwnI.nil _ _, Below.refl _ _⟩
  | some ad =>
    obtain ⟨n, hn⟩ : ∃ n, n = l.length := ⟨_, rfl⟩
    have HN := Lib.hid hn
    have HE : Hid (OwnI (w.alloc (.cells #[] 3)) w.heap.size (.slice (some ⟨w.heap.size, 0, none⟩) 0 0) []) := World.ownsRow_made w #[] 0 (Nat.le_refl _) (Nat.zero_le _) rfl
    have HI := Lib.hid (h.below ((Below.refl w.heap.size w).alloc (Nat.le_refl _) (.cells #[] 3)))
    have HL : Hid (([] : List Int).length + l.length ≤ 17179869184) := by show ([] : List Int).length + l.length ≤ _; simp; omega
    rw [← hn] at HI ⊢
    clear hn hc h
    go_enter Try.func36, Try.ntmps36
    go_wp2_with (at_builtin; refine wpList_appendM (F := F) rfl _ _ rfl rfl w.heap.size (by simp) (.slice (some ⟨w.heap.size, 0, none⟩) 0 0) (.slice (some ad) n cap) [] l rfl rfl HE.out HI.out HL.out ?_; intro v5 w5 hO5 hB5 hM5; have HO := Lib.hid hO5; have HB := Lib.hid (((Below.refl w.heap.size w).alloc (Nat.le_refl _) (.cells #[] 3)).trans hB5); clear hO5 hB5 hM5)
    go_ret
    exact ⟨_, rfl, HO.out, HB.out⟩
/-- A list of lists of numbers, of the call's own. -/
structure TowM (w : World) (R B : Nat) (v : Value) (T : List (List Int)) (vs : List Value) : Prop where
  own : w.ownsRow R 38 1 v T.length vs
  len : vs.length = T.length
  each : ∀ j (_ : j < T.length) (_ : j < vs.length), OwnI w B vs[j] T[j]
theorem TowM.keepB {w w' : World} {R B : Nat} {v : Value} {T : List (List Int)} {vs : List Value} (h : TowM w R B v T vs) (e : ∀ k, k < w.heap.size → w'.heap[k]? = w.heap[k]?) : TowM w' R B v T vs :=
  ⟨ownsRow_keep h.own fun k hk => e k (h.own.lt k hk).2, h.len, fun j h1 h2 => (h.each j h1 h2).keepB fun k hk => e k (World.ownsRow.lt (h.each j h1 h2) k hk).2⟩
/-- Where only other kinds of blocks turn. -/
theorem TowM.kinds {w w' : World} {R B : Nat} {v : Value} {T : List (List Int)} {vs : List Value} (h : TowM w R B v T vs) (e : ∀ (k : Nat) (c : Array Value), (w.heap[k]? = some (.cells c 3 (0, 0)) ∨ w.heap[k]? = some (.cells c 38 (0, 0))) → w'.heap[k]? = w.heap[k]?) : TowM w' R B v T vs :=
  ⟨ownsRow_keep h.own fun k hk => by
    obtain ⟨_, _, c, hc⟩ := ownsRow_kind h.own k hk
    exact e k c (.inr hc), h.len, fun j h1 h2 => (h.each j h1 h2).keepB fun k hk => by
    obtain ⟨_, _, c, hc⟩ := ownsRow_kind (h.each j h1 h2) k hk
    exact e k c (.inl hc)⟩
theorem TowM.below {w w' : World} {R B : Nat} {v : Value} {T : List (List Int)} {vs : List Value} (h : TowM w R B v T vs) (hb : Below w.heap.size w w') : TowM w' R B v T vs := h.keepB fun k hk => hb.block k hk
theorem TowM.form {w : World} {R B : Nat} {v : Value} {T : List (List Int)} {vs : List Value} (h : TowM w R B v T vs) : ∃ a cap, v = .slice a T.length cap ∧ T.length ≤ cap ∧ cap ≤ 9223372036854775807 ∧ (0 < T.length → ∃ g, a = some ⟨g, 0, none⟩ ∧ g < w.heap.size ∧ R ≤ g ∧ ∀ j (_ : j < T.length) (_ : j < vs.length), w.cell? ⟨g, j, none⟩ = some vs[j]) := by
  rcases h.own.2 with ⟨rfl, h0⟩ | ⟨g, cap, cur, rfl, hg, hh, hnc, hcp, hcs, htake⟩
  · exact ⟨none, 0, by rw [h0], by omega, by omega, fun h => by omega⟩
  · have hown : w.ownsRow R 38 1 (.slice (some ⟨g, 0, none⟩) T.length cap) T.length vs := h.own
    refine ⟨_, cap, rfl, hnc, by unfold maxLen at hcp; omega, fun _ => ⟨g, rfl, (Array.getElem?_eq_some_iff.1 hh).1, hg, fun j h1 h2 => ?_⟩⟩
    have h := hown.cells (g := g) rfl j vs[j] (List.getElem?_eq_getElem h2)
    rw [Addr.add_lit, Nat.zero_add] at h
    exact h
/-- 'append(v, floor)' of one list, whose slice lies in a new block. -/
theorem wpList_pushT {ops : Array Oper} {rest : List Oper} {o : Oper} {a : Act} {Q : Exit → Act → World → Prop} {w : World} (hgd : o.guard = none) (s x : Operand)
    (ho : o.op = .call { callee := .builtin .append, args := #[s, x], argTypes := #[77, 77] })
    (R B : Nat) (hB : R ≤ w.heap.size) (v : Value) (T : List (List Int)) (vs : List Value) (u : Value) (l : List Int) (hs : a.eval s = v) (h : TowM w R B v T vs) (hu : OwnI w B u l) (hx : a.eval x = .slice (some ⟨w.heap.size, 0, none⟩) 1 1)
    (hb : T.length + 1 ≤ 1099511627776)
    (hk : ∀ v' w', TowM w' R B v' (T ++ [l]) (vs ++ [u]) → Below R w w' → wpList Try.prog ops Q rest (a.put o.dst v') w') :
    wpList Try.prog ops Q (o :: rest) a (w.alloc (.cells #[u] 38)) := by
  obtain ⟨ii, hi, hz0, hz1, hz2⟩ := info_parts Try.infoIs
  have hlen := h.len
  have hnew : ∀ j q, [u][j]? = some q → (w.alloc (.cells #[u] 38)).cell? ((⟨w.heap.size, 0, none⟩ : Addr).add j) = some q := by
    intro j q hj
    match j, hj with
    | 0, hj => simp at hj; subst hj; simp [Addr.add]
  have hone : ∀ q ∈ [u], q.oneCell' = true := by
    intro q hq
    obtain rfl := List.mem_singleton.1 hq
    exact ownsRow_cell' hu
  refine wpList_append_two _ hgd s x 77 ho R 38 ii _ 1 24 Try.underlying77 hi hz0 hz1 hz2 rfl (by decide) _ _ _ hs (h.own.alloc _) ⟨w.heap.size, 0, none⟩ 1 1 [u] hx rfl hnew hone (by unfold maxLen; omega) (by omega) (by simp; omega) ?_
  intro v' w' h1 h2
  have h2' : Ap.Two (w.alloc (.cells #[u] 38)) w' v v' := h2
  have stay : ∀ q l, OwnI w B q l → OwnI w' B q l := fun q l hq => hq.keepB fun k hk => by
    obtain ⟨_, k1, c1, k2⟩ := ownsRow_kind hq k hk
    rw [h2'.drop.far k1]
    intro e
    obtain ⟨_, _, c2, k3⟩ := ownsRow_kind h.own k e
    exact kinds_ne k2 k3 (by decide) rfl
  refine hk v' w' ⟨by simpa using h1, by simp [hlen], fun j j1 j2 => ?_⟩ ?_
  · by_cases e : j < T.length
    · rw [List.getElem_append_left e, List.getElem_append_left (by omega)]
      exact stay _ _ (h.each j e (by omega))
    · have e' : j = T.length := by simp at j1; omega
      subst e'
      have e3 : (vs ++ [u])[T.length]'j2 = u := by simp only [← hlen, List.getElem_append_right (Nat.le_refl _), Nat.sub_self, List.getElem_cons_zero]
      rw [e3, List.getElem_append_right (Nat.le_refl _)]
      simp only [Nat.sub_self, List.getElem_cons_zero]
      exact stay _ _ hu
  · have hg : (w.alloc (.cells #[u] 38)).grownBy w' v.ownBlock ∨ (w.alloc (.cells #[u] 38)).grownBy w' none := h2.elim (fun h => .inl h.2) fun h => .inr h.2
    rcases hg with hg | hg
    · exact ((Below.refl R w).alloc hB _).grown hg (by simp; omega) (fun j hj => (h.own.lt j hj).1)
    · exact ((Below.refl R w).alloc hB _).grown hg (by simp; omega) (fun j hj => by cases hj)
set_option maxHeartbeats 2000000 in
set_option maxRecDepth 100000 in
theorem above_any (w : World) (R B : Nat) (v : Value) (T : List (List Int)) (vs : List Value) (h : TowM w R B v T vs) (hp : 0 < T.length) (hT : T.length ≤ 1073741824) (hl : T[T.length - 1].length ≤ 1073741824) :
    Calls Try.prog 56 #[v] w fun e w' => ∃ u, e = .returned u ∧ OwnI w' w.heap.size u (Pt.abv T[T.length - 1]) ∧ Below w.heap.size w w' := by
  obtain ⟨a, cap, rfl, h1, h2, h3⟩ := h.form
  obtain ⟨g, rfl, g1, _, g2⟩ := h3 hp
  have hvs := h.len
  have c1 := g2 (T.length - 1) (by omega) (by omega)
  have hO := h.each (T.length - 1) (by omega) (by omega)
  generalize vs[T.length - 1] = u at *
  generalize T[T.length - 1] = l at *
  obtain ⟨n, hn⟩ : ∃ n, n = T.length := ⟨_, rfl⟩
  rw [← hn] at c1 h1 ⊢
  have hp2 : 0 < n := by omega
  have hn2 : n ≤ 1073741824 := by omega
  clear h h3 g2 hvs hn hp hT
  obtain ⟨gl, al, cl, rfl, l1, l2, l3, _, _, l4, _⟩ := hO.opened
  obtain ⟨m, hm⟩ : ∃ m, m = l.length := ⟨_, rfl⟩
  have HM := Lib.hid hm
  have L3 := Lib.hid l3
  have L4 := Lib.hid l4
  rw [← hm] at l1 c1 hl
  clear l3 l4 hm hO
  obtain ⟨n', rfl⟩ : ∃ n', n = n' + 1 := ⟨n - 1, by omega⟩
  have i1 : ((n' + 1 : Nat) : Int) - 1 = (n' : Int) := by omega
  rw [Nat.add_sub_cancel] at c1
  go_enter Try.func56, Try.ntmps56
  go_wp2_with fail
  go_loopg [3, 5] (m / 8) (fun g fv iv wx => ∃ k : Nat, k ≤ m / 8 ∧ g = m / 8 - k ∧ iv = .int .i64 ((8 * k + 7 : Nat) : Int) ∧ OwnI wx w.heap.size fv ((Pt.abv l).take k) ∧ Below w.heap.size w wx)
  case atStart => exact ⟨0, Nat.zero_le _, rfl, rfl, OwnI.nil _ _, Below.refl _ _⟩
  case round =>
    obtain ⟨k, hk, rfl, rfl, hO, hbel⟩ := hrel
    obtain ⟨r, hr⟩ : ∃ r, r = 8 * k + 7 := ⟨_, rfl⟩
    rw [← hr]
    have HO := Lib.hid hO
    have HB := Lib.hid hbel
    have al8 := Pt.abv_length l
    rw [← HM.out] at al8
    obtain ⟨af, cf, hf⟩ := hO.form
    obtain ⟨nf, hnf⟩ : ∃ nf, nf = ((Pt.abv l).take k).length := ⟨_, rfl⟩
    rw [← hnf] at hf
    clear hnf hO hbel
    subst hf
    by_cases hkm : r < m
    · have i2 : (r : Int) < (m : Int) := by omega
      obtain ⟨rfl, _⟩ := L3.out (by rw [← HM.out]; omega)
      have hg : gl < w.heap.size := (L3.out (by rw [← HM.out]; omega)).2
      have rx : r < l.length := by rw [← HM.out]; exact hkm
      have c5 := (HB.out.cell (p := ⟨gl, r, none⟩) hg).trans (L4.out r rx)
      have ka : k < (Pt.abv l).length := by rw [al8]; omega
      have hnx : Hid ((Pt.abv l).take (k + 1) = (Pt.abv l).take k ++ [l[r]]) := by
        show _ = _
        rw [List.take_succ_eq_append_getElem ka, Pt.abv_get l k ka (by rw [← hr]; exact rx)]
        simp only [hr]
      have hll : Hid (((Pt.abv l).take k).length + 1 ≤ 17179869184) := by show _ ≤ _; rw [List.length_take]; omega
      have hr8 : (r : Int) + 8 = ((8 * (k + 1) + 7 : Nat) : Int) := by omega
      have HR8 := Lib.hid hr8
      have HK8 : Hid (k + 1 ≤ m / 8) := by show _ ≤ _; omega
      clear hr8 al8 hr
      generalize (Pt.abv l).take k = LA at *
      generalize l[r] = x at *
      go_wp2_with (at_builtin; refine wpList_appendM (F := fun _ => True) rfl _ _ rfl rfl w.heap.size (Nat.le_trans HB.out.size (by simp)) (.slice af nf cf) (.slice (some ⟨wr.heap.size, 0, none⟩) 1 1) LA [x] rfl rfl (HO.out.alloc _) (one_int' _ _ rfl _) hll.out ?_; intro v5 w5 hO5 hB5 hM5; have HO5 := Lib.hid hO5; have HB5 := Lib.hid ((HB.out.alloc HB.out.size _).trans hB5); clear hO5 hB5 hM5)
      go_roundg (m / 8 - (k + 1))
      case rel => exact ⟨k + 1, HK8.out, rfl, by first | exact congrArg (Value.int .i64) HR8.out | (rw [HR8.out]) | (have := HR8.out; go_num), by rw [hnx.out]; exact HO5.out, HB5.out⟩
      case measure => have := HK8.out; omega
    · obtain rfl : k = m / 8 := by omega
      have e : (Pt.abv l).take (m / 8) = Pt.abv l := List.take_of_length_le (by rw [al8]; exact Nat.le_refl _)
      have hO2 := HO.out
      rw [e] at hO2
      have HO2 := Lib.hid hO2
      have i2 : ¬ (r : Int) < (m : Int) := by omega
      clear e hO2 HO al8
      go_wp2_with fail
      go_ret
      exact ⟨_, rfl, HO2.out, HB.out⟩
/-- A list of one list. -/
theorem towM_one (w : World) (B : Nat) (u : Value) (l : List Int) (hu : OwnI w B u l) : TowM (w.alloc (.cells #[u] 38)) w.heap.size B (.slice (some ⟨w.heap.size, 0, none⟩) 1 1) [l] [u] := by
  refine ⟨World.ownsRow_lit w #[u] 1 (Nat.le_refl _) (by unfold maxLen; omega) rfl, rfl, fun j j1 j2 => ?_⟩
  obtain rfl : j = 0 := by simp at j1; omega
  exact hu.alloc _
/-- What a tower made of numbers is. -/
def TowPost (w : World) (B : Nat) (foot : List Int) (e : Ending) (w' : World) : Prop := ∃ u T vs, e = .returned u ∧ TowM w' w.heap.size B u T vs ∧ Pt.Tow foot T ∧ T.length ≤ 1073741824 ∧ Below w.heap.size w w'
set_option maxHeartbeats 2000000 in
set_option maxRecDepth 100000 in
theorem towerOn_any (w : World) (B : Nat) (hB : B ≤ w.heap.size) (v : Value) (foot : List Int) (h : OwnI w B v foot) (hl : foot.length ≤ 1048576) :
    Calls Try.prog 37 #[v] w (TowPost w B foot) := by
  obtain ⟨af, cf, hf⟩ := h.form
  obtain ⟨nf, hnf⟩ : ∃ nf, nf = foot.length := ⟨_, rfl⟩
  rw [← hnf] at hf
  subst hf
  have HF := Lib.hid hnf
  have hT0 := Lib.hid (towM_one w B _ foot h)
  have hB0 : Hid (Below w.heap.size w (w.alloc (.cells #[.slice af nf cf] 38))) := (Below.refl _ _).alloc (Nat.le_refl _) _
  clear hnf h
  go_enter Try.func37, Try.ntmps37
  go_wp2_with fail
  go_loopg [3] foot.length (fun g tv wx => ∃ (T : List (List Int)) (vs : List Value) (hp : 0 < T.length), g = (T[T.length - 1]'(by omega)).length ∧ Hid (Pt.Tow foot T) ∧ TowM wx w.heap.size B tv T vs ∧ T.length + g ≤ foot.length + 1 ∧ Below w.heap.size w wx)
  case atStart => exact ⟨[foot], _, by simp, rfl, Pt.tow_one foot, hT0.out, by simp; omega, hB0.out⟩
  case round =>
    clear hT0 hB0
    obtain ⟨T, vs, hp, rfl, hTow, hT, hlen, hbel⟩ := hrel
    have HT := Lib.hid hT
    have HB := Lib.hid hbel
    obtain ⟨a, cap, hv, h1, h2, h3⟩ := hT.form
    obtain ⟨g, rfl, g1, g0, g2⟩ := h3 hp
    have hvs := hT.len
    have c1 := g2 (T.length - 1) (by omega) (by omega)
    have hO := hT.each (T.length - 1) (by omega) (by omega)
    have hab := Lib.hid (above_any wr _ B u3 T vs hT hp (by omega) (by omega))
    have hsn := Lib.hid hTow.out.snoc
    have hal := Pt.abv_length T[T.length - 1]
    have HLT : Hid (T.length - 1 < T.length) := by show _ < _; omega
    obtain ⟨l, hlz⟩ : ∃ l, l = T[T.length - 1]'(HLT.out) := ⟨_, rfl⟩
    have HLZ := Lib.hid hlz
    rw [← hlz] at hO hab hsn hal hlen
    generalize vs[T.length - 1] = u at *
    obtain ⟨al, cl, hu⟩ := hO.form
    obtain ⟨m, hm⟩ : ∃ m, m = l.length := ⟨_, rfl⟩
    rw [← hm] at hu hlen hal
    obtain ⟨n, hn⟩ : ∃ n, n = T.length := ⟨_, rfl⟩
    have HN := Lib.hid hn
    have HM := Lib.hid hm
    rw [← hn] at hv c1 h1 hlen hp
    subst hv hu
    obtain ⟨n', rfl⟩ : ∃ n', n = n' + 1 := ⟨n - 1, by omega⟩
    have i1 : ((n' + 1 : Nat) : Int) - 1 = (n' : Int) := by omega
    rw [Nat.add_sub_cancel] at c1
    clear hT hbel h3 g2 hvs hn hm hlz hO
    by_cases h8 : 8 ≤ m
    · have i3 : (8 : Int) ≤ (m : Int) := by omega
      have HLN : Hid (T.length + 1 ≤ 1099511627776) := by have := HN.out; show _ ≤ _; omega
      have HB0 : Hid (B ≤ wr.heap.size) := Nat.le_trans hB HB.out.size
      have hgl : Hid (m / 8 < (T[T.length - 1]'(by have := HN.out; omega)).length ∧ (Pt.abv l).length = m / 8) := ⟨by rw [← HLZ.out, ← HM.out]; omega, hal⟩
      go_wp2_with (first
        | (go_at_call 56; refine hab.out.mono ?_; rintro e1 w5 ⟨u5, rfl, hO5, hb5⟩; have HB5 := Lib.hid (HB.out.trans (hb5.mono HB.out.size)); have HT5 := Lib.hid (HT.out.below hb5); have HO5 := Lib.hid (hO5.base HB0.out); obtain ⟨a5, c5, f5⟩ := hO5.form; obtain ⟨n5, hn5⟩ : ∃ n5, n5 = (Pt.abv l).length := ⟨_, rfl⟩; rw [← hn5] at f5; clear hn5 hO5 hb5; subst f5)
        | (at_builtin; refine wpList_pushT rfl _ _ rfl w.heap.size B HB5.out.size (.slice (some ⟨g, 0, none⟩) (n' + 1) cap) T vs (.slice a5 n5 c5) (Pt.abv l) rfl HT5.out HO5.out rfl HLN.out ?_; intro v7 w7 hT7 hb7; have HT7 := Lib.hid hT7; have HB7 := Lib.hid (HB5.out.trans hb7); clear hT7 hb7))
      go_roundg (m / 8)
      case rel =>
        refine ⟨T ++ [Pt.abv l], vs ++ [.slice a5 n5 c5], by simp, ?_, by rw [HLZ.out] at *; exact hTow.out.snoc, HT7.out, ?_, HB7.out⟩
        · simp [hgl.out.2]
        · rw [List.length_append, List.length_singleton, ← HN.out]; omega
      case measure => exact hgl.out.1
    · have i3 : ¬ (8 : Int) ≤ (m : Int) := by omega
      go_wp2_with fail
      go_ret
      exact ⟨_, T, vs, rfl, HT.out, hTow.out, by have := HN.out; omega, HB.out⟩
end Go.Proofs.Ytokdjaljeckghaa
/-
  A search in a tower: the place behind an Advance.
-/
namespace Go.Proofs.Ytokdjaljeckghaa
open Go.RowKit
set_option maxHeartbeats 2000000 in
set_option maxRecDepth 100000 in
theorem isBelow_any (w : World) (R B : Nat) (v : Value) (T : List (List Int)) (vs : List Value) (h : TowM w R B v T vs) (f p : Nat) (x : Int) (hf : f < T.length) :
    Calls Try.prog 57 #[v, .int .i64 f, .int .i64 p, .int .i64 x] w fun e w' => e = .returned (.bool (decide (∃ hp : p < T[f].length, T[f][p] < x))) ∧ w' = w := by
  obtain ⟨a, cap, rfl, h1, h2, h3⟩ := h.form
  obtain ⟨g, rfl, g1, _, g2⟩ := h3 (by omega)
  have hvs := h.len
  have c1 := g2 f hf (by omega)
  have hO := h.each f hf (by omega)
  generalize vs[f] = u at *
  generalize T[f] = l at *
  obtain ⟨gl, al, cl, rfl, l1, l2, l3, _, _, l4, _⟩ := hO.opened
  obtain ⟨n, hn⟩ : ∃ n, n = T.length := ⟨_, rfl⟩
  obtain ⟨m, hm⟩ : ∃ m, m = l.length := ⟨_, rfl⟩
  have HM := Lib.hid hm
  have L3 := Lib.hid l3
  have L4 := Lib.hid l4
  have i1 : (f : Int) < (n : Int) := by omega
  have i2 : f < n := by omega
  rw [← hn] at h1 ⊢
  rw [← hm] at l1 c1
  clear l3 l4 hm hn hO h h3 g2 hvs hf
  by_cases hp : p < m
  · have px : p < l.length := by rw [← HM.out]; exact hp
    obtain ⟨rfl, hg⟩ := L3.out (by omega)
    have c5 := L4.out p px
    have i3 : (p : Int) < (m : Int) := by omega
    by_cases hx : l[p] < x
    · rw [decide_eq_true (⟨px, hx⟩ : ∃ hp : p < l.length, l[p] < x)]
      generalize l[p] = y at *
      go_enter Try.func57, Try.ntmps57
      go_wp2_with fail
      go_ret
      exact ⟨rfl, rfl⟩
    · rw [decide_eq_false (fun q : ∃ hp : p < l.length, l[p] < x => hx q.choose_spec)]
      generalize l[p] = y at *
      go_enter Try.func57, Try.ntmps57
      go_wp2_with fail
      go_ret
      exact ⟨rfl, rfl⟩
  · have i3 : ¬ (p : Int) < (m : Int) := by omega
    rw [decide_eq_false (fun q : ∃ hp : p < l.length, l[p] < x => hp (by rw [HM.out]; exact q.choose))]
    clear hp
    go_enter Try.func57, Try.ntmps57
    go_wp2_with fail
    go_ret
    exact ⟨rfl, rfl⟩
set_option maxHeartbeats 4000000 in
set_option maxRecDepth 100000 in
theorem seek_any (w : World) (R B : Nat) (v : Value) (d : List Pt.Po) (T : List (List Int)) (vs : List Value) (h : TowM w R B v T vs) (hT : Pt.Tow (d.map Pt.Po.doc) T) (hTl : T.length ≤ 1073741824) (hc : Pt.chk (-1) d = 0) (k0 : Nat) (hk : k0 ≤ d.length) (x : Int) :
    Calls Try.prog 39 #[v, .int .i64 k0, .int .i64 x] w fun e w' => e = .returned (.int .i64 (Pt.adv d x k0)) ∧ w' = w := by
  have hib := Lib.hid (fun f p hf => isBelow_any w R B v T vs h f p x hf)
  have HT := Lib.hid hT
  have hrise := Lib.hid (fun i j (hi : i < (d.map Pt.Po.doc).length) (hj : j < (d.map Pt.Po.doc).length) (hij : i < j) => show (d.map Pt.Po.doc)[i] < (d.map Pt.Po.doc)[j] by
    rw [List.getElem_map, List.getElem_map]
    exact Pt.chk_lt hc i j (by rw [List.length_map] at hi; exact hi) (by rw [List.length_map] at hj; exact hj) hij)
  have hn : d.length ≤ 1048576 := Pt.chk_len hc
  obtain ⟨a, cap, hv, h1, h2, _⟩ := h.form
  obtain ⟨H, hH⟩ : ∃ H, H = T.length := ⟨_, rfl⟩
  have HH := Lib.hid hH
  have hpos := hT.pos
  have hflen : (d.map Pt.Po.doc).length = d.length := List.length_map ..
  obtain ⟨n, hnz⟩ : ∃ n, n = d.length := ⟨_, rfl⟩
  have HN := Lib.hid hnz
  rw [← hH] at hv hTl h1 hpos
  have hs0 := Lib.hid (Pt.Sk.start (foot := d.map Pt.Po.doc) (x := x) (k0 := k0) (by rw [hflen]; exact hk))
  clear h hT hc hH hnz hflen hk
  subst hv
  go_enter Try.func39, Try.ntmps39
  go_wp2_with fail
  go_loopg [1, 7, 8] (Pt.left H n 0 k0 true) (fun g pv fv uv wx => ∃ (f p : Nat) (up : Bool), pv = .int .i64 p ∧ fv = .int .i64 f ∧ uv = .bool up ∧ f < H ∧ Pt.Sk (d.map Pt.Po.doc) x k0 f p ∧ g = Pt.left H n f p up ∧ wx = w)
  case atStart => exact ⟨0, k0, true, rfl, rfl, rfl, hpos, hs0.out, rfl, rfl⟩
  case round =>
    obtain ⟨f, p, up, rfl, rfl, rfl, hf, hS, rfl, rfl⟩ := hrel
    have HS := Lib.hid hS
    have hf8 : 0 < 8 ^ f := Nat.pow_pos (by decide)
    have hhi : p * 8 ^ f ≤ n := by have := hS.high; rw [List.length_map] at this; rw [HN.out]; exact this
    have hpn : p ≤ n := Nat.le_trans (Nat.le_mul_of_pos_right p hf8) hhi
    have hn2 : n ≤ 1048576 := by rw [HN.out]; exact hn
    obtain ⟨r, hr⟩ : ∃ r, r = p % 8 := ⟨_, rfl⟩
    have m2 : (p : Int).tmod 8 = (r : Int) := by rw [Int.tmod_eq_emod_of_nonneg (by omega)]; omega
    have m4 : (p : Int) % 8 = (r : Int) := by omega
    have hpf := Lib.hid (hib.out f p (by rw [← HH.out]; exact hf))
    clear hS hf8
    have HF := Lib.hid hf
    cases up with
    | true =>
      by_cases hr0 : r = 0
      · by_cases hfH : f + 1 < H
        · subst hr0
          obtain ⟨q, hq⟩ : ∃ q, q = p / 8 := ⟨_, rfl⟩
          have q2 : (p : Int).tdiv 8 = (q : Int) := by rw [Int.tdiv_eq_ediv_of_nonneg (by omega)]; omega
          have q4 : (p : Int) / 8 = (q : Int) := by omega
          have i3 : (f : Int) + 1 < (H : Int) := by omega
          have hS2 : Hid (Pt.Sk (d.map Pt.Po.doc) x k0 (f + 1) q) := by rw [hq]; exact HS.out.up hr.symm
          have hlt : Hid (Pt.left H n (f + 1) q true < Pt.left H n f p true) := by rw [hq]; exact Pt.left_up hfH hr.symm
          have i5 : Hid (f + 1 < H) := hfH
          clear hq hr hpf hfH
          go_wp2_with fail
          go_roundg (Pt.left H n (f + 1) q true)
          case rel => exact ⟨f + 1, q, true, rfl, by go_num, rfl, i5.out, hS2.out, rfl, rfl⟩
          case measure => exact hlt.out
        · subst hr0
          have i3 : ¬ (f : Int) + 1 < (H : Int) := by omega
          have z0 := ((0 : Nat) : Int)
          clear hr hfH
          by_cases hx : ∃ hp : p < (T[f]'(by rw [← HH.out]; exact HF.out)).length, (T[f]'(by rw [← HH.out]; exact HF.out))[p] < x
          · have hib2 := hpf.out
            rw [decide_eq_true hx] at hib2
            have HIB := Lib.hid hib2
            have hS2 := Lib.hid (HS.out.next HT.out hrise.out (by rw [← HH.out]; exact HF.out) hx.choose hx.choose_spec)
            have hlt : Hid (Pt.left H n f (p + 1) true < Pt.left H n f p true) := Pt.left_next true (by have := hS2.out.high; rw [List.length_map] at this; rw [HN.out]; exact this)
            clear hib2 hpf hx
            go_wp2_with (go_at_call 57; refine HIB.out.mono ?_; rintro e1 w2 ⟨rfl, rfl⟩)
            go_roundg (Pt.left H n f (p + 1) true)
            case rel => exact ⟨f, p + 1, true, by go_num, rfl, rfl, HF.out, hS2.out, rfl, rfl⟩
            case measure => exact hlt.out
          · have hib2 := hpf.out
            rw [decide_eq_false hx] at hib2
            have HIB := Lib.hid hib2
            have HX := Lib.hid hx
            clear hib2 hpf hx
            cases f with
            | zero =>
              have hfin : Hid (Pt.adv d x k0 = p) := HS.out.found HT.out fun hp => by
                have h := HX.out
                refine Int.not_lt.1 fun q => h ⟨hp, q⟩
              go_wp2_with (go_at_call 57; refine HIB.out.mono ?_; rintro e1 w2 ⟨rfl, rfl⟩)
              go_ret
              exact ⟨by rw [hfin.out]; rfl, rfl⟩
            | succ f =>
              have i7 : (((f + 1 : Nat) : Int) == 0) = false := by simpa using (fun q : ((f + 1 : Nat) : Int) = 0 => by omega)
              have i8 : ((f + 1 : Nat) : Int) - 1 = (f : Int) := by omega
              have hS2 := Lib.hid HS.out.down
              have hlt := Lib.hid (Pt.left_down (H := H) (n := n) (f := f) (p := p) true HF.out)
              have hp8 : p * 8 ≤ n := by
                have e : p * 8 ^ (f + 1) = p * 8 * 8 ^ f := by rw [Nat.pow_succ, Nat.mul_assoc, Nat.mul_comm 8]
                rw [e] at hhi
                exact Nat.le_trans (Nat.le_mul_of_pos_right _ (Nat.pow_pos (by decide))) hhi
              have HP8 := Lib.hid hp8
              clear hhi
              go_wp2_with (go_at_call 57; refine HIB.out.mono ?_; rintro e1 w2 ⟨rfl, rfl⟩)
              go_roundg (Pt.left H n f (p * 8) false)
              case rel => exact ⟨f, p * 8, false, by first | rfl | (have := HP8.out; go_num), by first | rfl | (have := HF.out; go_num), rfl, by have := HF.out; omega, hS2.out, rfl, rfl⟩
              case measure => exact hlt.out
      · have i3 : ((r : Int) == 0) = false := by simpa using (fun q : (r : Int) = 0 => hr0 (by omega))
        clear hr hr0
        by_cases hx : ∃ hp : p < (T[f]'(by rw [← HH.out]; exact HF.out)).length, (T[f]'(by rw [← HH.out]; exact HF.out))[p] < x
        · have hib2 := hpf.out
          rw [decide_eq_true hx] at hib2
          have HIB := Lib.hid hib2
          have hS2 := Lib.hid (HS.out.next HT.out hrise.out (by rw [← HH.out]; exact HF.out) hx.choose hx.choose_spec)
          have hlt : Hid (Pt.left H n f (p + 1) true < Pt.left H n f p true) := Pt.left_next true (by have := hS2.out.high; rw [List.length_map] at this; rw [HN.out]; exact this)
          clear hib2 hpf hx
          go_wp2_with (go_at_call 57; refine HIB.out.mono ?_; rintro e1 w2 ⟨rfl, rfl⟩)
          go_roundg (Pt.left H n f (p + 1) true)
          case rel => exact ⟨f, p + 1, true, by go_num, rfl, rfl, HF.out, hS2.out, rfl, rfl⟩
          case measure => exact hlt.out
        · have hib2 := hpf.out
          rw [decide_eq_false hx] at hib2
          have HIB := Lib.hid hib2
          have HX := Lib.hid hx
          clear hib2 hpf hx
          cases f with
          | zero =>
            have hfin : Hid (Pt.adv d x k0 = p) := HS.out.found HT.out fun hp => by
              have h := HX.out
              refine Int.not_lt.1 fun q => h ⟨hp, q⟩
            go_wp2_with (go_at_call 57; refine HIB.out.mono ?_; rintro e1 w2 ⟨rfl, rfl⟩)
            go_ret
            exact ⟨by rw [hfin.out]; rfl, rfl⟩
          | succ f =>
            have i7 : (((f + 1 : Nat) : Int) == 0) = false := by simpa using (fun q : ((f + 1 : Nat) : Int) = 0 => by omega)
            have i8 : ((f + 1 : Nat) : Int) - 1 = (f : Int) := by omega
            have hS2 := Lib.hid HS.out.down
            have hlt := Lib.hid (Pt.left_down (H := H) (n := n) (f := f) (p := p) true HF.out)
            have hp8 : p * 8 ≤ n := by
              have e : p * 8 ^ (f + 1) = p * 8 * 8 ^ f := by rw [Nat.pow_succ, Nat.mul_assoc, Nat.mul_comm 8]
              rw [e] at hhi
              exact Nat.le_trans (Nat.le_mul_of_pos_right _ (Nat.pow_pos (by decide))) hhi
            have HP8 := Lib.hid hp8
            clear hhi
            go_wp2_with (go_at_call 57; refine HIB.out.mono ?_; rintro e1 w2 ⟨rfl, rfl⟩)
            go_roundg (Pt.left H n f (p * 8) false)
            case rel => exact ⟨f, p * 8, false, by first | rfl | (have := HP8.out; go_num), by first | rfl | (have := HF.out; go_num), rfl, by have := HF.out; omega, hS2.out, rfl, rfl⟩
            case measure => exact hlt.out
    | false =>
      clear hr
      by_cases hx : ∃ hp : p < (T[f]'(by rw [← HH.out]; exact HF.out)).length, (T[f]'(by rw [← HH.out]; exact HF.out))[p] < x
      · have hib2 := hpf.out
        rw [decide_eq_true hx] at hib2
        have HIB := Lib.hid hib2
        have hS2 := Lib.hid (HS.out.next HT.out hrise.out (by rw [← HH.out]; exact HF.out) hx.choose hx.choose_spec)
        have hlt : Hid (Pt.left H n f (p + 1) false < Pt.left H n f p false) := Pt.left_next false (by have := hS2.out.high; rw [List.length_map] at this; rw [HN.out]; exact this)
        clear hib2 hpf hx
        go_wp2_with (go_at_call 57; refine HIB.out.mono ?_; rintro e1 w2 ⟨rfl, rfl⟩)
        go_roundg (Pt.left H n f (p + 1) false)
        case rel => exact ⟨f, p + 1, false, by go_num, rfl, rfl, HF.out, hS2.out, rfl, rfl⟩
        case measure => exact hlt.out
      · have hib2 := hpf.out
        rw [decide_eq_false hx] at hib2
        have HIB := Lib.hid hib2
        have HX := Lib.hid hx
        clear hib2 hpf hx
        cases f with
        | zero =>
          have hfin : Hid (Pt.adv d x k0 = p) := HS.out.found HT.out fun hp => by
            have h := HX.out
            refine Int.not_lt.1 fun q => h ⟨hp, q⟩
          go_wp2_with (go_at_call 57; refine HIB.out.mono ?_; rintro e1 w2 ⟨rfl, rfl⟩)
          go_ret
          exact ⟨by rw [hfin.out]; rfl, rfl⟩
        | succ f =>
          have i7 : (((f + 1 : Nat) : Int) == 0) = false := by simpa using (fun q : ((f + 1 : Nat) : Int) = 0 => by omega)
          have i8 : ((f + 1 : Nat) : Int) - 1 = (f : Int) := by omega
          have hS2 := Lib.hid HS.out.down
          have hlt := Lib.hid (Pt.left_down (H := H) (n := n) (f := f) (p := p) false HF.out)
          have hp8 : p * 8 ≤ n := by
            have e : p * 8 ^ (f + 1) = p * 8 * 8 ^ f := by rw [Nat.pow_succ, Nat.mul_assoc, Nat.mul_comm 8]
            rw [e] at hhi
            exact Nat.le_trans (Nat.le_mul_of_pos_right _ (Nat.pow_pos (by decide))) hhi
          have HP8 := Lib.hid hp8
          clear hhi
          go_wp2_with (go_at_call 57; refine HIB.out.mono ?_; rintro e1 w2 ⟨rfl, rfl⟩)
          go_roundg (Pt.left H n f (p * 8) false)
          case rel => exact ⟨f, p * 8, false, by first | rfl | (have := HP8.out; go_num), by first | rfl | (have := HF.out; go_num), rfl, by have := HF.out; omega, hS2.out, rfl, rfl⟩
          case measure => exact hlt.out
end Go.Proofs.Ytokdjaljeckghaa
/-
  A cursor in memory, and a new one.
-/
namespace Go.Proofs.Ytokdjaljeckghaa
open Go.RowKit
/-- A row that is being filled, a cell each. -/
structure FRow (w : World) (B b n : Nat) (t : TypeId) (xs : List Value) : Prop where
  base : B ≤ b
  blk : ∃ c : Array Value, w.heap[b]? = some (.cells c t (0, 0)) ∧ c.size = n ∧ c.toList.take xs.length = xs
  room : xs.length ≤ n
theorem FRow.at {w : World} {B b n : Nat} {t : TypeId} {xs : List Value} (h : FRow w B b n t xs) (j : Nat) (hj : j < n) : (∃ u, w.cell? ⟨b, j, none⟩ = some u) ∧ w.frozen? ⟨b, j, none⟩ = false := by
  obtain ⟨c, h1, h2, _⟩ := h.blk
  refine ⟨⟨c[j]'(by omega), ?_⟩, by simp [World.frozen?, h1]⟩
  simp [World.cell?, h1, show j < c.size by omega]
theorem FRow.keep {w w' : World} {B b n : Nat} {t : TypeId} {xs : List Value} (h : FRow w B b n t xs) (e : w'.heap[b]? = w.heap[b]?) : FRow w' B b n t xs := by
  obtain ⟨c, h1, h2, h3⟩ := h.blk
  exact ⟨h.base, ⟨c, e.trans h1, h2, h3⟩, h.room⟩
theorem FRow.put {w : World} {B b n : Nat} {t : TypeId} {xs : List Value} (h : FRow w B b n t xs) (hn : xs.length < n) (u : Value) : FRow (w.setCell ⟨b, xs.length, none⟩ u) B b n t (xs ++ [u]) := by
  obtain ⟨c, h1, h2, h3⟩ := h.blk
  refine ⟨h.base, ⟨_, heap_set w b xs.length u c _ _ h1, by simp [h2], ?_⟩, by simp; omega⟩
  have hct : (c.toList.take xs.length).length = xs.length := by rw [h3]
  apply List.ext_getElem?
  intro i
  rw [List.getElem?_take, Array.getElem?_toList, Array.getElem?_setIfInBounds, List.length_append, List.length_singleton]
  conv => rhs; rw [← h3]
  rcases Nat.lt_trichotomy i xs.length with hi | hi | hi
  · rw [if_pos (by omega), if_neg (by omega), List.getElem?_append_left (by rw [hct]; omega), List.getElem?_take, if_pos hi, Array.getElem?_toList]
  · subst hi
    rw [if_pos (by omega), if_pos rfl, if_pos (by omega), List.getElem?_append_right (by rw [hct]; omega), hct, Nat.sub_self]
    rfl
  · rw [if_neg (by omega), List.getElem?_append_right (by rw [hct]; omega), hct]
    obtain ⟨q, hq⟩ : ∃ q, i - xs.length = q + 1 := ⟨i - xs.length - 1, by omega⟩
    rw [hq]
    rfl
theorem FRow.own {w : World} {B b n : Nat} {t : TypeId} {xs : List Value} (h : FRow w B b n t xs) (hn : xs.length = n) (hm : n ≤ 1099511627776) : w.ownsRow B t 1 (.slice (some ⟨b, 0, none⟩) n n) n xs := by
  obtain ⟨c, h1, h2, h3⟩ := h.blk
  exact ⟨by omega, .inr ⟨b, n, c, rfl, h.base, h1, Nat.le_refl _, by unfold maxLen; omega, by omega, by rw [Nat.mul_one, ← hn]; exact h3⟩⟩
theorem two_made (w : World) (X Y : Obj) : ((w.alloc X).alloc Y).heap[w.heap.size]? = some X ∧ ((w.alloc X).alloc Y).heap[w.heap.size + 1]? = some Y := by
  constructor
  · rw [Go.Deep.blk_alloc_lt _ _ _ (by simp)]
    exact Go.Deep.blk_alloc_new _ _
  · have e : (w.alloc X).heap.size = w.heap.size + 1 := by simp
    rw [← e]
    exact Go.Deep.blk_alloc_new _ _
theorem fRow_new (w : World) (B b n : Nat) (z : Value) (t : TypeId) (hB : B ≤ b) (h : w.heap[b]? = some (.cells (madeCells #[z] n) t)) : FRow w B b n t [] :=
  ⟨hB, ⟨_, h, by rw [size_madeCells], by simp⟩, Nat.zero_le _⟩
/-- A cursor over postings, at a place. -/
structure CurM (w : World) (B p : Nat) (d : List Pt.Po) (k : Int) : Prop where
  base : B ≤ p
  mem : ∃ (tv pv : Value) (T : List (List Int)) (vT vP : List Value) (R : Nat), w.heap[p]? = some (.cells #[tv, pv, .int .i64 k] 80 (0, 0)) ∧ B ≤ R ∧ TowM w R B tv T vT ∧ Pt.Tow (d.map Pt.Po.doc) T ∧ T.length ≤ 1073741824 ∧ TowM w B B pv (d.map Pt.Po.ats) vP
  ok : Pt.chk (-1) d = 0
theorem CurM.below {w w' : World} {B p : Nat} {d : List Pt.Po} {k : Int} (h : CurM w B p d k) (hb : Below w.heap.size w w') : CurM w' B p d k := by
  obtain ⟨tv, pv, T, vT, vP, R, h1, h2, h3, h4, h5, h6⟩ := h.mem
  exact ⟨h.base, ⟨tv, pv, T, vT, vP, R, (hb.block p (blk_lt h1)).trans h1, h2, h3.below hb, h4, h5, h6.below hb⟩, h.ok⟩
theorem makeI2 (n : Nat) (hn : n ≤ 1099511627776) (w : World) : (Instr.makeSlice 38 (.int .i64 (n : Int)) (.int .i64 (n : Int))).run Try.prog w = .ok (.slice (some ⟨w.heap.size, 0, none⟩) n n) (w.alloc (.cells (madeCells #[.int .i64 0] n) 3)) :=
  run_make_row' (P := Try.prog) 38 3 (.int .i64 0) 8 Try.underlying38 Try.infoI rfl .i64 .i64 n (by omega) (by omega) w
theorem makeL2 (n : Nat) (hn : n ≤ 1099511627776) (w : World) : (Instr.makeSlice 75 (.int .i64 (n : Int)) (.int .i64 (n : Int))).run Try.prog w = .ok (.slice (some ⟨w.heap.size, 0, none⟩) n n) (w.alloc (.cells (madeCells #[.slice none 0 0] n) 38)) :=
  run_make_row' (P := Try.prog) 75 38 (.slice none 0 0) 24 Try.underlying75 Try.infoIs rfl .i64 .i64 n (by omega) (by omega) w
end Go.Proofs.Ytokdjaljeckghaa
/-
  What New answers.
-/
namespace Go.Proofs.Ytokdjaljeckghaa
open Go.RowKit
theorem enters_clone : ∀ args w, (callFunc 36 args).run Try.prog w = .ok (.enter 36 args) w := fun args w => enters_of Try.func36 (by kernel_rfl) rfl args w
theorem po_boxd {w : World} {p : Nat} {x : Int} {v : Value} (h : w.heap[p]? = some (.cells #[.int .i64 x, v] 40 (0, 0))) : w.drew.cell? ⟨p, 0, none⟩ = some (.int .i64 x) ∧ w.drew.cell? ⟨p, 1, none⟩ = some v := po_box (w := w.drew) h
set_option maxHeartbeats 4000000 in
set_option maxRecDepth 100000 in
theorem new_any (w : World) (F : Nat → Prop) (v : Value) (d : List Pt.Po) (h : PoS F w v d) :
    Calls Try.prog 19 #[v] w fun e w' => Below w.heap.size w w' ∧ ((Pt.chk (-1) d ≠ 0 ∧ e = .returned (.tuple #[.pointer none, .int .i64 (Pt.chk (-1) d)])) ∨ (Pt.chk (-1) d = 0 ∧ ∃ p, e = .returned (.tuple #[.pointer (some ⟨p, 0, none⟩), .int .i64 0]) ∧ CurM w' w.heap.size p d (-1))) := by
  have hck := Lib.hid (check_any w F v d h)
  obtain ⟨a, cap, rfl, h1, h2, hv⟩ := h
  obtain ⟨n, hn⟩ : ∃ n, n = d.length := ⟨_, rfl⟩
  have HU := Lib.hid hv
  have HN := Lib.hid hn
  rw [← hn] at h1 hck ⊢
  clear hv hn
  by_cases hc : Pt.chk (-1) d = 0
  · rw [hc] at hck
    have HC := Lib.hid hc
    have hnl : n ≤ 1048576 := by rw [HN.out]; exact Pt.chk_len hc
    have hmem := Lib.hid (Pt.chk_mem hc)
    have hmk1 := makeI2 n (by omega)
    have hmk2 := makeL2 n (by omega)
    clear hc
    go_enter Try.func19, Try.ntmps19
    go_wp2_with (go_at_call 14; refine hck.out.mono ?_; rintro e1 w1 ⟨rfl, hb1⟩; have HB1 := Lib.hid hb1; clear hb1)
    go_region
    · obtain ⟨w2, hw2⟩ : ∃ w2, w2 = ((w1.alloc (.cells (madeCells #[.int .i64 0] n) 3)).alloc (.cells (madeCells #[.slice none 0 0] n) 38)).drew := ⟨_, rfl⟩
      have hx := two_made w1 (.cells (madeCells #[.int .i64 0] n) 3) (.cells (madeCells #[.slice none 0 0] n) 38)
      have hB2 : Hid (Below w.heap.size w w2) := by show Below _ _ _; rw [hw2]; exact ((HB1.out.alloc HB1.out.size _).alloc (Nat.le_trans HB1.out.size (by simp)) _).drew
      obtain ⟨Lp, hLp⟩ : ∃ Lp, Lp = w1.heap.size + 1 := ⟨_, rfl⟩
      rw [← hLp] at hx ⊢
      obtain ⟨Lf, hLf⟩ : ∃ Lf, Lf = w1.heap.size := ⟨_, rfl⟩
      rw [← hLf] at hx ⊢
      have hF0 : Hid (FRow w2 w.heap.size Lf n 3 []) := fRow_new w2 _ _ n _ _ (by rw [hLf]; exact HB1.out.size) (by rw [hw2]; exact hx.1)
      have hP0 : Hid (FRow w2 w.heap.size Lp n 38 []) := fRow_new w2 _ _ n _ _ (by rw [hLp]; exact Nat.le_trans HB1.out.size (Nat.le_succ _)) (by rw [hw2]; exact hx.2)
      rw [← hw2]
      clear hx hw2 hLf hLp hmk1 hmk2 hck HB1
      go_wp2_with fail
      go_loopg [22] n (fun g iv wx => ∃ (k : Nat) (vs : List Value), k ≤ n ∧ g = n - k ∧ iv = .int .i64 k ∧ FRow wx w.heap.size Lf n 3 (intsV ((d.map Pt.Po.doc).take k)) ∧ FRow wx w.heap.size Lp n 38 vs ∧ vs.length = k ∧ (∀ j (_ : j < vs.length) (_ : j < d.length), OwnI wx w.heap.size vs[j] d[j].ats ∧ vs[j].ownBlock ≠ some Lf) ∧ Below w.heap.size w wx)
      case atStart => exact ⟨0, [], Nat.zero_le _, rfl, rfl, hF0.out, hP0.out, rfl, fun j h => absurd h (Nat.not_lt_zero j), hB2.out⟩
      case round =>
        clear hF0 hP0 hB2
        obtain ⟨k, vs, hk, rfl, rfl, hF, hP, hvl, hE, hbel⟩ := hrel
        have HF := Lib.hid hF
        have HP := Lib.hid hP
        have HV := Lib.hid hvl
        have HE := Lib.hid hE
        have HB := Lib.hid hbel
        clear hF hP hvl hE hbel
        by_cases hkn : k < n
        · have i2 : (k : Int) < (n : Int) := by omega
          have kx : k < d.length := by rw [← HN.out]; exact hkn
          obtain ⟨g, o, rfl, hg, _, hcu⟩ := HU.out (by omega)
          obtain ⟨a1, vat, a2, a3⟩ := hcu k kx
          have c1 := (HB.out.cell (p := ⟨g, o + k * 2, none⟩) hg).trans a1
          have c2 := (HB.out.cell (p := ⟨g, o + k * 2 + 1, none⟩) hg).trans a2
          have hlx : ((d.map Pt.Po.doc).take k).length = k := by rw [List.length_take, List.length_map]; omega
          have hS : Hid ((d.map Pt.Po.doc).take (k + 1) = (d.map Pt.Po.doc).take k ++ [d[k].doc]) := by show _ = _; rw [List.take_succ_eq_append_getElem (by rw [List.length_map]; exact kx), List.getElem_map]
          have hal := Pt.chkA_len (hmem.out d[k] (List.getElem_mem kx)).2.2.2
          have A3 := Lib.hid a3
          obtain ⟨l, hlz⟩ : ∃ l, l = d[k].ats := ⟨_, rfl⟩
          obtain ⟨x, hxz⟩ : ∃ x, x = d[k].doc := ⟨_, rfl⟩
          have HLZ := Lib.hid hlz
          rw [← hxz] at c1 hS
          rw [← hlz] at hal A3
          clear a1 a2 a3 hcu hlz hxz
          obtain ⟨ab, cab, rfl, q1, q2, _⟩ := id A3.out
          obtain ⟨m, hm⟩ : ∃ m, m = l.length := ⟨_, rfl⟩
          rw [← hm] at c2 q1 A3 hal
          have HM := Lib.hid hm
          clear hm
          have HBA := Lib.hid (HB.out.alloc HB.out.size (.cells #[.int .i64 x, .slice ab m cab] 40))
          have hpx : Hid ((wr.alloc (.cells #[.int .i64 x, .slice ab m cab] 40)).heap[wr.heap.size]? = some (.cells #[.int .i64 x, .slice ab m cab] 40 (0, 0))) := Go.Deep.blk_alloc_new _ _
          obtain ⟨p1, p2⟩ := po_boxd hpx.out
          have hcl := Lib.hid (clone_any (wr.alloc (.cells #[.int .i64 x, .slice ab m cab] 40)).drew (.slice ab m cab) l (A3.out.keep HBA.out.drew.size fun q _ hq => HBA.out.drew.block q hq) (by rw [← HM.out]; omega))
          go_wp2_with fail
          go_region_with (go_at_call 36; refine hcl.out.mono ?_; rintro e1 w7 ⟨v7, rfl, hO7, hb7⟩; have HB7 := Lib.hid (HBA.out.drew.trans (hb7.mono HBA.out.drew.size)); have KP : Hid (∀ q, q < wr.heap.size → w7.heap[q]? = wr.heap[q]?) := (fun q hq => (hb7.block q (Nat.lt_of_lt_of_le hq (by simp [World.drew]))).trans (Go.Deep.blk_alloc_lt _ _ _ hq)); have hpx7 : w7.heap[wr.heap.size]? = some (.cells #[.int .i64 x, .slice ab m cab] 40 (0, 0)) := (hb7.block _ (by simp [World.drew])).trans hpx.out; obtain ⟨r1, r2⟩ := po_box hpx7; have HNF : Hid (v7.ownBlock ≠ some Lf) := (fun e => Nat.lt_irrefl Lf (Nat.lt_of_lt_of_le (Nat.lt_of_lt_of_le (blk_lt HF.out.blk.choose_spec.1) (by simp [World.drew])) (World.ownsRow.lt hO7 Lf e).1)); have HO7 := Lib.hid (hO7.base HBA.out.drew.size); obtain ⟨a7, c7, f7⟩ := hO7.form; rw [← HM.out] at f7; have HF7 := Lib.hid (HF.out.keep (KP.out Lf (blk_lt HF.out.blk.choose_spec.1))); have HP7 := Lib.hid (HP.out.keep (KP.out Lp (blk_lt HP.out.blk.choose_spec.1))); obtain ⟨⟨s0, s1⟩, s2⟩ := HF7.out.at k hkn; obtain ⟨⟨t0, t1⟩, t2⟩ := HP7.out.at k hkn; have HNE : Hid (Lf ≠ Lp) := (by obtain ⟨cf, hf1, _⟩ := HF.out.blk; obtain ⟨cp, hp1, _⟩ := HP.out.blk; exact kinds_ne hf1 hp1 (by decide)); have HP8 := Lib.hid (HP7.out.keep (heap_other w7 Lf k Lp (.int .i64 x) HNE.out.symm)); obtain ⟨⟨u0, u1⟩, u2⟩ := HP8.out.at k hkn; clear hO7 hb7 hpx7; subst f7)
          all_goals
            have g1 := HF7.out.put (by rw [intsV_length, hlx]; exact hkn) (.int .i64 x)
            rw [intsV_length, hlx, intsV_snoc, ← hS.out] at g1
            have g2 := HP8.out.put (by rw [HV.out]; exact hkn) (.slice a7 m c7)
            rw [HV.out] at g2
            have g3 := g1.keep (heap_other (w7.setCell ⟨Lf, k, none⟩ (.int .i64 x)) Lp k Lf (.slice a7 m c7) HNE.out)
            have g4 : ∀ u l, OwnI w7 w.heap.size u l → u.ownBlock ≠ some Lf → OwnI ((w7.setCell ⟨Lf, k, none⟩ (.int .i64 x)).setCell ⟨Lp, k, none⟩ (.slice a7 m c7)) w.heap.size u l := fun u l hu hne => hu.keepB fun q hq => by
              have n1 : q ≠ Lf := fun e => hne (e ▸ hq)
              have n2 : q ≠ Lp := fun e => hu.far HP7.out.blk.choose_spec.1 (by decide) (e ▸ hq)
              rw [heap_other _ _ _ _ _ n2, heap_other _ _ _ _ _ n1]
            have g5 : ∀ j (_ : j < (vs ++ [Value.slice a7 m c7]).length) (_ : j < d.length), OwnI ((w7.setCell ⟨Lf, k, none⟩ (.int .i64 x)).setCell ⟨Lp, k, none⟩ (.slice a7 m c7)) w.heap.size (vs ++ [Value.slice a7 m c7])[j] d[j].ats ∧ (vs ++ [Value.slice a7 m c7])[j].ownBlock ≠ some Lf := fun j j1 j2 => by
              by_cases ej : j < vs.length
              · rw [List.getElem_append_left ej]
                obtain ⟨e1, e2⟩ := HE.out j ej j2
                exact ⟨g4 _ _ (e1.keepB fun q hq => KP.out q (World.ownsRow.lt e1 q hq).2) e2, e2⟩
              · have e' : j = k := by rw [List.length_append, List.length_singleton, HV.out] at j1; rw [HV.out] at ej; omega
                subst e'
                have e3 : (vs ++ [Value.slice a7 m c7])[j]'j1 = .slice a7 m c7 := by rw [List.getElem_append_right (by omega)]; simp
                rw [e3, ← HLZ.out]
                exact ⟨g4 _ _ HO7.out HNF.out, HNF.out⟩
            have G1 := Lib.hid g3
            have G2 := Lib.hid g2
            have G5 := Lib.hid g5
            have GB := Lib.hid ((HB7.out.setCell (p := ⟨Lf, k, none⟩) HF7.out.base (.int .i64 x)).setCell (p := ⟨Lp, k, none⟩) HP7.out.base (.slice a7 m c7))
            clear g1 g2 g3 g4 g5 s1 s2 t1 t2 u1 u2 r1 r2 p1 p2 c1 c2
            go_wp2_with fail
            go_roundg (n - (k + 1))
            case rel => exact ⟨k + 1, vs ++ [.slice a7 m c7], by omega, rfl, by go_num, G1.out, G2.out, by rw [List.length_append, HV.out]; rfl, G5.out, GB.out⟩
            case measure => omega
        · obtain rfl : k = n := by omega
          have hd : (d.map Pt.Po.doc).take k = d.map Pt.Po.doc := List.take_of_length_le (by rw [List.length_map, ← HN.out]; exact Nat.le_refl _)
          have hF2 := HF.out
          rw [hd] at hF2
          have hdl : (d.map Pt.Po.doc).length = k := by rw [List.length_map]; exact HN.out.symm
          have hOf : OwnI wr w.heap.size (.slice (some ⟨Lf, 0, none⟩) k k) (d.map Pt.Po.doc) := by
            have := hF2.own (by rw [intsV_length, hdl]) (by omega)
            unfold OwnI
            rw [hdl]
            exact this
          have hPl : TowM wr w.heap.size w.heap.size (.slice (some ⟨Lp, 0, none⟩) k k) (d.map Pt.Po.ats) vs := by
            have e := HP.out.own HV.out (by omega)
            refine ⟨by rw [List.length_map, ← HN.out]; exact e, by rw [List.length_map, HV.out]; exact HN.out, fun j j1 j2 => ?_⟩
            rw [List.getElem_map]
            exact (HE.out j j2 (by rw [List.length_map] at j1; exact j1)).1
          have hto := Lib.hid (towerOn_any wr w.heap.size HB.out.size _ _ hOf (by rw [hdl]; exact hnl))
          have HPL := Lib.hid hPl
          clear hd hF2 hdl hOf hPl HF HP
          go_wp2_with (go_at_call 37; refine hto.out.mono ?_; rintro e1 w8 ⟨u8, T, vT, rfl, hT8, hW8, hL8, hb8⟩; have HT8 := Lib.hid hT8; have HW8 := Lib.hid hW8; have HL8 := Lib.hid hL8; have HB8 := Lib.hid (HB.out.trans (hb8.mono HB.out.size)); have HP8 := Lib.hid (HPL.out.below hb8); have HS8 := Lib.hid hb8.size; obtain ⟨a8, c8, f8, _⟩ := hT8.form; obtain ⟨n8, hn8⟩ : ∃ n8, n8 = T.length := ⟨_, rfl⟩; rw [← hn8] at f8; clear hn8 hT8 hW8 hL8 hb8; subst f8)
          go_ret2
          refine ⟨HB8.out.alloc HB8.out.size _, .inr ⟨HC.out, w8.heap.size, rfl, HB8.out.size, ⟨_, _, T, vT, vs, wr.heap.size, Go.Deep.blk_alloc_new _ _, HB.out.size, ?_, HW8.out, HL8.out, ?_⟩, HC.out⟩⟩
          · exact HT8.out.below ((Below.refl _ _).alloc (Nat.le_refl _) _)
          · exact HP8.out.below ((Below.refl _ _).alloc (Nat.le_refl _) _)
    · obtain ⟨w2, hw2⟩ : ∃ w2, w2 = ((w1.alloc (.cells (madeCells #[.slice none 0 0] n) 38)).alloc (.cells (madeCells #[.int .i64 0] n) 3)).drew := ⟨_, rfl⟩
      have hx := two_made w1 (.cells (madeCells #[.slice none 0 0] n) 38) (.cells (madeCells #[.int .i64 0] n) 3)
      have hB2 : Hid (Below w.heap.size w w2) := by show Below _ _ _; rw [hw2]; exact ((HB1.out.alloc HB1.out.size _).alloc (Nat.le_trans HB1.out.size (by simp)) _).drew
      obtain ⟨Lf, hLf⟩ : ∃ Lf, Lf = w1.heap.size + 1 := ⟨_, rfl⟩
      rw [← hLf] at hx ⊢
      obtain ⟨Lp, hLp⟩ : ∃ Lp, Lp = w1.heap.size := ⟨_, rfl⟩
      rw [← hLp] at hx ⊢
      have hF0 : Hid (FRow w2 w.heap.size Lf n 3 []) := fRow_new w2 _ _ n _ _ (by rw [hLf]; exact Nat.le_trans HB1.out.size (Nat.le_succ _)) (by rw [hw2]; exact hx.2)
      have hP0 : Hid (FRow w2 w.heap.size Lp n 38 []) := fRow_new w2 _ _ n _ _ (by rw [hLp]; exact HB1.out.size) (by rw [hw2]; exact hx.1)
      rw [← hw2]
      clear hx hw2 hLf hLp hmk1 hmk2 hck HB1
      go_wp2_with fail
      go_loopg [22] n (fun g iv wx => ∃ (k : Nat) (vs : List Value), k ≤ n ∧ g = n - k ∧ iv = .int .i64 k ∧ FRow wx w.heap.size Lf n 3 (intsV ((d.map Pt.Po.doc).take k)) ∧ FRow wx w.heap.size Lp n 38 vs ∧ vs.length = k ∧ (∀ j (_ : j < vs.length) (_ : j < d.length), OwnI wx w.heap.size vs[j] d[j].ats ∧ vs[j].ownBlock ≠ some Lf) ∧ Below w.heap.size w wx)
      case atStart => exact ⟨0, [], Nat.zero_le _, rfl, rfl, hF0.out, hP0.out, rfl, fun j h => absurd h (Nat.not_lt_zero j), hB2.out⟩
      case round =>
        clear hF0 hP0 hB2
        obtain ⟨k, vs, hk, rfl, rfl, hF, hP, hvl, hE, hbel⟩ := hrel
        have HF := Lib.hid hF
        have HP := Lib.hid hP
        have HV := Lib.hid hvl
        have HE := Lib.hid hE
        have HB := Lib.hid hbel
        clear hF hP hvl hE hbel
        by_cases hkn : k < n
        · have i2 : (k : Int) < (n : Int) := by omega
          have kx : k < d.length := by rw [← HN.out]; exact hkn
          obtain ⟨g, o, rfl, hg, _, hcu⟩ := HU.out (by omega)
          obtain ⟨a1, vat, a2, a3⟩ := hcu k kx
          have c1 := (HB.out.cell (p := ⟨g, o + k * 2, none⟩) hg).trans a1
          have c2 := (HB.out.cell (p := ⟨g, o + k * 2 + 1, none⟩) hg).trans a2
          have hlx : ((d.map Pt.Po.doc).take k).length = k := by rw [List.length_take, List.length_map]; omega
          have hS : Hid ((d.map Pt.Po.doc).take (k + 1) = (d.map Pt.Po.doc).take k ++ [d[k].doc]) := by show _ = _; rw [List.take_succ_eq_append_getElem (by rw [List.length_map]; exact kx), List.getElem_map]
          have hal := Pt.chkA_len (hmem.out d[k] (List.getElem_mem kx)).2.2.2
          have A3 := Lib.hid a3
          obtain ⟨l, hlz⟩ : ∃ l, l = d[k].ats := ⟨_, rfl⟩
          obtain ⟨x, hxz⟩ : ∃ x, x = d[k].doc := ⟨_, rfl⟩
          have HLZ := Lib.hid hlz
          rw [← hxz] at c1 hS
          rw [← hlz] at hal A3
          clear a1 a2 a3 hcu hlz hxz
          obtain ⟨ab, cab, rfl, q1, q2, _⟩ := id A3.out
          obtain ⟨m, hm⟩ : ∃ m, m = l.length := ⟨_, rfl⟩
          rw [← hm] at c2 q1 A3 hal
          have HM := Lib.hid hm
          clear hm
          have HBA := Lib.hid (HB.out.alloc HB.out.size (.cells #[.int .i64 x, .slice ab m cab] 40))
          have hpx : Hid ((wr.alloc (.cells #[.int .i64 x, .slice ab m cab] 40)).heap[wr.heap.size]? = some (.cells #[.int .i64 x, .slice ab m cab] 40 (0, 0))) := Go.Deep.blk_alloc_new _ _
          obtain ⟨p1, p2⟩ := po_boxd hpx.out
          have hcl := Lib.hid (clone_any (wr.alloc (.cells #[.int .i64 x, .slice ab m cab] 40)).drew (.slice ab m cab) l (A3.out.keep HBA.out.drew.size fun q _ hq => HBA.out.drew.block q hq) (by rw [← HM.out]; omega))
          go_wp2_with fail
          go_region_with (go_at_call 36; refine hcl.out.mono ?_; rintro e1 w7 ⟨v7, rfl, hO7, hb7⟩; have HB7 := Lib.hid (HBA.out.drew.trans (hb7.mono HBA.out.drew.size)); have KP : Hid (∀ q, q < wr.heap.size → w7.heap[q]? = wr.heap[q]?) := (fun q hq => (hb7.block q (Nat.lt_of_lt_of_le hq (by simp [World.drew]))).trans (Go.Deep.blk_alloc_lt _ _ _ hq)); have hpx7 : w7.heap[wr.heap.size]? = some (.cells #[.int .i64 x, .slice ab m cab] 40 (0, 0)) := (hb7.block _ (by simp [World.drew])).trans hpx.out; obtain ⟨r1, r2⟩ := po_box hpx7; have HNF : Hid (v7.ownBlock ≠ some Lf) := (fun e => Nat.lt_irrefl Lf (Nat.lt_of_lt_of_le (Nat.lt_of_lt_of_le (blk_lt HF.out.blk.choose_spec.1) (by simp [World.drew])) (World.ownsRow.lt hO7 Lf e).1)); have HO7 := Lib.hid (hO7.base HBA.out.drew.size); obtain ⟨a7, c7, f7⟩ := hO7.form; rw [← HM.out] at f7; have HF7 := Lib.hid (HF.out.keep (KP.out Lf (blk_lt HF.out.blk.choose_spec.1))); have HP7 := Lib.hid (HP.out.keep (KP.out Lp (blk_lt HP.out.blk.choose_spec.1))); obtain ⟨⟨s0, s1⟩, s2⟩ := HF7.out.at k hkn; obtain ⟨⟨t0, t1⟩, t2⟩ := HP7.out.at k hkn; have HNE : Hid (Lf ≠ Lp) := (by obtain ⟨cf, hf1, _⟩ := HF.out.blk; obtain ⟨cp, hp1, _⟩ := HP.out.blk; exact kinds_ne hf1 hp1 (by decide)); have HP8 := Lib.hid (HP7.out.keep (heap_other w7 Lf k Lp (.int .i64 x) HNE.out.symm)); obtain ⟨⟨u0, u1⟩, u2⟩ := HP8.out.at k hkn; clear hO7 hb7 hpx7; subst f7)
          all_goals
            have g1 := HF7.out.put (by rw [intsV_length, hlx]; exact hkn) (.int .i64 x)
            rw [intsV_length, hlx, intsV_snoc, ← hS.out] at g1
            have g2 := HP8.out.put (by rw [HV.out]; exact hkn) (.slice a7 m c7)
            rw [HV.out] at g2
            have g3 := g1.keep (heap_other (w7.setCell ⟨Lf, k, none⟩ (.int .i64 x)) Lp k Lf (.slice a7 m c7) HNE.out)
            have g4 : ∀ u l, OwnI w7 w.heap.size u l → u.ownBlock ≠ some Lf → OwnI ((w7.setCell ⟨Lf, k, none⟩ (.int .i64 x)).setCell ⟨Lp, k, none⟩ (.slice a7 m c7)) w.heap.size u l := fun u l hu hne => hu.keepB fun q hq => by
              have n1 : q ≠ Lf := fun e => hne (e ▸ hq)
              have n2 : q ≠ Lp := fun e => hu.far HP7.out.blk.choose_spec.1 (by decide) (e ▸ hq)
              rw [heap_other _ _ _ _ _ n2, heap_other _ _ _ _ _ n1]
            have g5 : ∀ j (_ : j < (vs ++ [Value.slice a7 m c7]).length) (_ : j < d.length), OwnI ((w7.setCell ⟨Lf, k, none⟩ (.int .i64 x)).setCell ⟨Lp, k, none⟩ (.slice a7 m c7)) w.heap.size (vs ++ [Value.slice a7 m c7])[j] d[j].ats ∧ (vs ++ [Value.slice a7 m c7])[j].ownBlock ≠ some Lf := fun j j1 j2 => by
              by_cases ej : j < vs.length
              · rw [List.getElem_append_left ej]
                obtain ⟨e1, e2⟩ := HE.out j ej j2
                exact ⟨g4 _ _ (e1.keepB fun q hq => KP.out q (World.ownsRow.lt e1 q hq).2) e2, e2⟩
              · have e' : j = k := by rw [List.length_append, List.length_singleton, HV.out] at j1; rw [HV.out] at ej; omega
                subst e'
                have e3 : (vs ++ [Value.slice a7 m c7])[j]'j1 = .slice a7 m c7 := by rw [List.getElem_append_right (by omega)]; simp
                rw [e3, ← HLZ.out]
                exact ⟨g4 _ _ HO7.out HNF.out, HNF.out⟩
            have G1 := Lib.hid g3
            have G2 := Lib.hid g2
            have G5 := Lib.hid g5
            have GB := Lib.hid ((HB7.out.setCell (p := ⟨Lf, k, none⟩) HF7.out.base (.int .i64 x)).setCell (p := ⟨Lp, k, none⟩) HP7.out.base (.slice a7 m c7))
            clear g1 g2 g3 g4 g5 s1 s2 t1 t2 u1 u2 r1 r2 p1 p2 c1 c2
            go_wp2_with fail
            go_roundg (n - (k + 1))
            case rel => exact ⟨k + 1, vs ++ [.slice a7 m c7], by omega, rfl, by go_num, G1.out, G2.out, by rw [List.length_append, HV.out]; rfl, G5.out, GB.out⟩
            case measure => omega
        · obtain rfl : k = n := by omega
          have hd : (d.map Pt.Po.doc).take k = d.map Pt.Po.doc := List.take_of_length_le (by rw [List.length_map, ← HN.out]; exact Nat.le_refl _)
          have hF2 := HF.out
          rw [hd] at hF2
          have hdl : (d.map Pt.Po.doc).length = k := by rw [List.length_map]; exact HN.out.symm
          have hOf : OwnI wr w.heap.size (.slice (some ⟨Lf, 0, none⟩) k k) (d.map Pt.Po.doc) := by
            have := hF2.own (by rw [intsV_length, hdl]) (by omega)
            unfold OwnI
            rw [hdl]
            exact this
          have hPl : TowM wr w.heap.size w.heap.size (.slice (some ⟨Lp, 0, none⟩) k k) (d.map Pt.Po.ats) vs := by
            have e := HP.out.own HV.out (by omega)
            refine ⟨by rw [List.length_map, ← HN.out]; exact e, by rw [List.length_map, HV.out]; exact HN.out, fun j j1 j2 => ?_⟩
            rw [List.getElem_map]
            exact (HE.out j j2 (by rw [List.length_map] at j1; exact j1)).1
          have hto := Lib.hid (towerOn_any wr w.heap.size HB.out.size _ _ hOf (by rw [hdl]; exact hnl))
          have HPL := Lib.hid hPl
          clear hd hF2 hdl hOf hPl HF HP
          go_wp2_with (go_at_call 37; refine hto.out.mono ?_; rintro e1 w8 ⟨u8, T, vT, rfl, hT8, hW8, hL8, hb8⟩; have HT8 := Lib.hid hT8; have HW8 := Lib.hid hW8; have HL8 := Lib.hid hL8; have HB8 := Lib.hid (HB.out.trans (hb8.mono HB.out.size)); have HP8 := Lib.hid (HPL.out.below hb8); have HS8 := Lib.hid hb8.size; obtain ⟨a8, c8, f8, _⟩ := hT8.form; obtain ⟨n8, hn8⟩ : ∃ n8, n8 = T.length := ⟨_, rfl⟩; rw [← hn8] at f8; clear hn8 hT8 hW8 hL8 hb8; subst f8)
          go_ret2
          refine ⟨HB8.out.alloc HB8.out.size _, .inr ⟨HC.out, w8.heap.size, rfl, HB8.out.size, ⟨_, _, T, vT, vs, wr.heap.size, Go.Deep.blk_alloc_new _ _, HB.out.size, ?_, HW8.out, HL8.out, ?_⟩, HC.out⟩⟩
          · exact HT8.out.below ((Below.refl _ _).alloc (Nat.le_refl _) _)
          · exact HP8.out.below ((Below.refl _ _).alloc (Nat.le_refl _) _)
  · obtain ⟨c, hcc⟩ : ∃ c, c = Pt.chk (-1) d := ⟨_, rfl⟩
    rw [← hcc] at hck hc
    have HCC := Lib.hid hcc
    have HC := Lib.hid hc
    have hne : ((c : Int) != 0) = true := by simpa using hc
    clear hcc hc
    go_enter Try.func19, Try.ntmps19
    go_wp2_with (go_at_call 14; refine hck.out.mono ?_; rintro e1 w1 ⟨rfl, hb1⟩; have HB1 := Lib.hid hb1; clear hb1)
    go_ret2
    exact ⟨HB1.out, .inl ⟨by rw [← HCC.out]; exact HC.out, by rw [← HCC.out]; rfl⟩⟩
end Go.Proofs.Ytokdjaljeckghaa
/-
  Whether a cursor stands at a posting; Next and Advance.
-/
namespace Go.Proofs.Ytokdjaljeckghaa
open Go.RowKit
theorem cur_at {w : World} {p : Nat} {a b c : Value} (h : w.heap[p]? = some (.cells #[a, b, c] 80 (0, 0))) : w.cell? ⟨p, 0, none⟩ = some a ∧ w.cell? ⟨p, 1, none⟩ = some b ∧ w.cell? ⟨p, 2, none⟩ = some c ∧ ∀ j, w.frozen? ⟨p, j, none⟩ = false :=
  ⟨by simp [World.cell?, h], by simp [World.cell?, h], by simp [World.cell?, h], fun j => by simp [World.frozen?, h]⟩
theorem cur_atd {w : World} {p : Nat} {a b c : Value} (h : w.heap[p]? = some (.cells #[a, b, c] 80 (0, 0))) : w.drew.cell? ⟨p, 0, none⟩ = some a ∧ w.drew.cell? ⟨p, 1, none⟩ = some b ∧ w.drew.cell? ⟨p, 2, none⟩ = some c ∧ ∀ j, w.drew.frozen? ⟨p, j, none⟩ = false := cur_at (w := w.drew) h
set_option maxHeartbeats 2000000 in
set_option maxRecDepth 100000 in
theorem stands_any (w : World) (B p : Nat) (d : List Pt.Po) (k : Int) (h : CurM w B p d k) :
    Calls Try.prog 38 #[.pointer (some ⟨p, 0, none⟩)] w fun e w' => e = .returned (.bool (decide (0 ≤ k ∧ k < d.length))) ∧ Below w.heap.size w w' := by
  obtain ⟨tv, pv, T, vT, vP, R, h1, _, _, _, _, h6⟩ := h.mem
  obtain ⟨a, cap, hpv, f1, f2, _⟩ := h6.form
  rw [List.length_map] at hpv f1
  obtain ⟨n, hn⟩ : ∃ n, n = d.length := ⟨_, rfl⟩
  rw [← hn] at hpv f1 ⊢
  subst hpv
  obtain ⟨c0, c1, c2, _⟩ := cur_at h1
  clear h h1 h6 hn
  by_cases k0 : 0 ≤ k
  · by_cases kn : k < (n : Int)
    · rw [decide_eq_true ⟨k0, kn⟩]
      go_enter Try.func38, Try.ntmps38
      go_wp2_with fail
      go_quiet (fail)
      go_wp2_with fail
      go_ret
      exact ⟨rfl, belowN (Below.refl _ _) _⟩
    · rw [decide_eq_false (fun q => kn q.2)]
      go_enter Try.func38, Try.ntmps38
      go_wp2_with fail
      have q1 : ¬ k < (n : Int) := by omega
      go_quiet (fail)
      go_wp2_with fail
      go_ret
      exact ⟨rfl, belowN (Below.refl _ _) _⟩
  · rw [decide_eq_false (fun q => k0 q.1)]
    go_enter Try.func38, Try.ntmps38
    go_wp2_with fail
    have q0 : ¬ (0 : Int) ≤ k := by omega
    go_quiet (fail)
    go_wp2_with fail
    go_ret
    exact ⟨rfl, belowN (Below.refl _ _) _⟩
/-- Nothing but the cursor's own block has turned. -/
def Only (p : Nat) (w w' : World) : Prop := w.heap.size ≤ w'.heap.size ∧ (∀ q, q < w.heap.size → q ≠ p → w'.heap[q]? = w.heap[q]?) ∧ ∀ B, B ≤ p → Below B w w'
theorem Only.set (w : World) (p j : Nat) (v : Value) : Only p w (w.drew.setCell ⟨p, j, none⟩ v) :=
  ⟨Nat.le_of_eq (show w.drew.heap.size = _ by simp [World.setCell]), fun q _ hq => heap_other _ _ _ _ _ hq, fun B hB => (Below.refl B w).drew.setCell (p := ⟨p, j, none⟩) hB v⟩
theorem Only.below {p : Nat} {w w' w'' : World} (h : Only p w w') (hb : Below w'.heap.size w' w'') (hp : p < w.heap.size) : Only p w w'' :=
  ⟨Nat.le_trans h.1 hb.size, fun q h1 h2 => (hb.block q (Nat.lt_of_lt_of_le h1 h.1)).trans (h.2.1 q h1 h2), fun B hB => (h.2.2 B hB).trans (hb.mono (Nat.le_trans hB (Nat.le_of_lt (Nat.lt_of_lt_of_le hp h.1))))⟩
/-- The cursor goes on. -/
theorem CurM.set {w : World} {B p : Nat} {d : List Pt.Po} {k : Int} (h : CurM w B p d k) (k' : Int) : CurM (w.drew.setCell ⟨p, 2, none⟩ (.int .i64 k')) B p d k' := by
  obtain ⟨tv, pv, T, vT, vP, R, h1, h2, h3, h4, h5, h6⟩ := h.mem
  have far : ∀ (q : Nat) (c : Array Value), (w.heap[q]? = some (.cells c 3 (0, 0)) ∨ w.heap[q]? = some (.cells c 38 (0, 0))) → (w.drew.setCell ⟨p, 2, none⟩ (.int .i64 k')).heap[q]? = w.heap[q]? := fun q c hq => by
    rcases hq with hq | hq
    · exact heap_other _ _ _ _ _ (kinds_ne hq h1 (by decide))
    · exact heap_other _ _ _ _ _ (kinds_ne hq h1 (by decide))
  exact ⟨h.base, ⟨tv, pv, T, vT, vP, R, heap_set w.drew p 2 _ _ _ _ h1, h2, h3.kinds far, h4, h5, h6.kinds far⟩, h.ok⟩
theorem CurM.lt {w : World} {B p : Nat} {d : List Pt.Po} {k : Int} (h : CurM w B p d k) : p < w.heap.size := by
  obtain ⟨tv, pv, T, vT, vP, R, h1, _⟩ := h.mem
  exact blk_lt h1
set_option maxHeartbeats 2000000 in
set_option maxRecDepth 100000 in
theorem next_any (w : World) (B p : Nat) (d : List Pt.Po) (k : Int) (h : CurM w B p d k) (k0 : -1 ≤ k) (k1 : k ≤ d.length) :
    Calls Try.prog 21 #[.pointer (some ⟨p, 0, none⟩)] w fun e w' => e = .returned (.bool (decide (k + 1 < d.length))) ∧ CurM w' B p d (min (k + 1) d.length) ∧ Only p w w' := by
  have hst := Lib.hid (stands_any (w.drew.setCell ⟨p, 2, none⟩ (.int .i64 (min (k + 1) d.length))) B p d _ (h.set (min (k + 1) d.length)))
  have hset := Lib.hid (h.set (min (k + 1) d.length))
  have hlt := Lib.hid h.lt
  have hnl : d.length ≤ 1048576 := Pt.chk_len h.ok
  obtain ⟨tv, pv, T, vT, vP, R, h1, _, _, _, _, h6⟩ := h.mem
  obtain ⟨a, cap, hpv, f1, f2, _⟩ := h6.form
  rw [List.length_map] at hpv f1
  obtain ⟨n, hn⟩ : ∃ n, n = d.length := ⟨_, rfl⟩
  have HN := Lib.hid hn
  rw [← hn] at hpv f1 hst hset k1 hnl ⊢
  subst hpv
  obtain ⟨c0, c1, c2, c3⟩ := cur_atd h1
  have hres : Hid (decide (0 ≤ min (k + 1) (n : Int) ∧ min (k + 1) (n : Int) < n) = decide (k + 1 < n)) := decide_eq_decide.2 (by omega)
  rw [hres.out] at hst
  clear h h1 h6 hn
  go_enter Try.func21, Try.ntmps21
  go_wp2_with fail
  go_region
  all_goals
    go_wp2_with (go_at_call 38; refine hst.out.mono ?_; rintro e1 w2 ⟨rfl, hb2⟩; have HB2 := Lib.hid hb2; clear hb2)
    go_ret
    exact ⟨rfl, hset.out.below HB2.out, (Only.set w p 2 _).below HB2.out hlt.out⟩
end Go.Proofs.Ytokdjaljeckghaa
/-
  Advance of a cursor, and its Post.
-/
namespace Go.Proofs.Ytokdjaljeckghaa
open Go.RowKit
theorem adv_le (d : List Pt.Po) (x : Int) (k : Nat) (h : k ≤ d.length) : Pt.adv d x k ≤ d.length := (Pt.adv_spec d x _ k rfl).2.1 h
set_option maxHeartbeats 2000000 in
set_option maxRecDepth 100000 in
theorem advance_any (w : World) (B p : Nat) (d : List Pt.Po) (k : Int) (h : CurM w B p d k) (kn : Nat) (hkn : max k 0 = (kn : Int)) (k1 : kn ≤ d.length) (x : Int) :
    Calls Try.prog 22 #[.pointer (some ⟨p, 0, none⟩), .int .i64 x] w fun e w' => e = .returned (.bool (decide (Pt.adv d x kn < d.length))) ∧ CurM w' B p d (Pt.adv d x kn) ∧ Only p w w' := by
  obtain ⟨r, hr⟩ : ∃ r, r = Pt.adv d x kn := ⟨_, rfl⟩
  have hrl : r ≤ d.length := by rw [hr]; exact adv_le d x kn k1
  have hst := Lib.hid (stands_any (w.drew.setCell ⟨p, 2, none⟩ (.int .i64 (r : Int))) B p d _ (h.set (r : Int)))
  have hset := Lib.hid (h.set (r : Int))
  have hlt := Lib.hid h.lt
  obtain ⟨tv, pv, T, vT, vP, R, h1, _, h3, h4, h5, h6⟩ := h.mem
  have hsk := Lib.hid (seek_any w.drew R B tv d T vT (h3.keepB fun _ _ => rfl) h4 h5 h.ok kn k1 x)
  obtain ⟨a, cap, htv, _⟩ := h3.form
  obtain ⟨n8, hn8⟩ : ∃ n8, n8 = T.length := ⟨_, rfl⟩
  rw [← hn8] at htv
  subst htv
  obtain ⟨c0, c1, c2, c3⟩ := cur_atd h1
  obtain ⟨n, hn⟩ : ∃ n, n = d.length := ⟨_, rfl⟩
  rw [← hn] at hst hrl ⊢
  have hres : Hid (decide (0 ≤ (r : Int) ∧ (r : Int) < n) = decide (r < n)) := decide_eq_decide.2 (by omega)
  rw [hres.out] at hst
  rw [← hr] at hsk ⊢
  clear h h1 h3 h4 h5 h6 hn hn8 hr k1
  go_enter Try.func22, Try.ntmps22
  go_wp2_with fail
  go_region_with (go_at_call 39; refine hsk.out.mono ?_; rintro e1 w2 ⟨rfl, rfl⟩)
  all_goals
    go_wp2_with (go_at_call 38; refine hst.out.mono ?_; rintro e1 w2 ⟨rfl, hb2⟩; have HB2 := Lib.hid hb2; clear hb2)
    go_ret
    exact ⟨rfl, hset.out.below HB2.out, (Only.set w p 2 _).below HB2.out hlt.out⟩
/-- What a cursor's Post answers: where it stands, in new memory. -/
def PostC (w : World) (d : List Pt.Po) (k : Int) (e : Ending) (w' : World) : Prop :=
  Below w.heap.size w w' ∧ ((¬ (0 ≤ k ∧ k < d.length) ∧ e = .returned (.tuple #[.agg #[.int .i64 0, .slice none 0 0], .bool false])) ∨
    ∃ (j : Nat) (hj : j < d.length) (va : Value), k = (j : Int) ∧ e = .returned (.tuple #[.agg #[.int .i64 d[j].doc, va], .bool true]) ∧ OwnI w' w.heap.size va d[j].ats)
set_option maxHeartbeats 4000000 in
set_option maxRecDepth 100000 in
theorem post_any (w : World) (B p : Nat) (d : List Pt.Po) (k : Int) (h : CurM w B p d k) :
    Calls Try.prog 20 #[.pointer (some ⟨p, 0, none⟩)] w (PostC w d k) := by
  have hb0 : Below w.heap.size w (w.alloc (.cells #[.int .i64 0, .slice none 0 0] 40)) := (Below.refl _ _).alloc (Nat.le_refl _) _
  have hs := Lib.hid (stands_any _ B p d k (h.below hb0))
  have hb := Lib.hid hb0
  have hx : Hid ((w.alloc (.cells #[.int .i64 0, .slice none 0 0] 40)).heap[w.heap.size]? = some (.cells #[.int .i64 0, .slice none 0 0] 40 (0, 0))) := Go.Deep.blk_alloc_new _ _
  clear hb0
  by_cases hk : 0 ≤ k ∧ k < (d.length : Int)
  · obtain ⟨j, rfl⟩ := Int.eq_ofNat_of_zero_le hk.1
    have hj : j < d.length := by omega
    obtain ⟨tv, pv, T, vT, vP, R, h1, _, h3, h4, _, h6⟩ := h.mem
    obtain ⟨at1, ct1, rfl, _, _, ht⟩ := h3.form
    obtain ⟨gt, rfl, gt1, _, gt2⟩ := ht h4.pos
    have t1 := gt2 0 h4.pos (by rw [h3.len]; exact h4.pos)
    have hf := h3.each 0 h4.pos (by rw [h3.len]; exact h4.pos)
    rw [h4.foot] at hf
    generalize vT[0]'(by rw [h3.len]; exact h4.pos) = vf at *
    obtain ⟨gf, af, cf, hvf, _, _, f3, _, _, f5, _⟩ := hf.opened
    rw [List.length_map] at hvf f3
    obtain ⟨rfl, gf1⟩ := f3 (by omega)
    have t2 := f5 j (by rw [List.length_map]; exact hj)
    rw [List.getElem_map] at t2
    obtain ⟨ap1, cp1, rfl, _, _, hp⟩ := h6.form
    obtain ⟨gp, rfl, gp1, _, gp2⟩ := hp (by rw [List.length_map]; omega)
    have t3 := gp2 j (by rw [List.length_map]; exact hj) (by rw [h6.len, List.length_map]; exact hj)
    have ha := h6.each j (by rw [List.length_map]; exact hj) (by rw [h6.len, List.length_map]; exact hj)
    rw [List.getElem_map] at ha
    generalize vP[j]'(by rw [h6.len, List.length_map]; exact hj) = va at *
    rw [hvf] at t1
    obtain ⟨aa, ca, rfl⟩ := ha.form
    obtain ⟨q0, q1, q2, _⟩ := cur_at h1
    have hpl := blk_lt h1
    obtain ⟨H, hH⟩ : ∃ H, H = T.length := ⟨_, rfl⟩
    have hpos : 0 < H := by rw [hH]; exact h4.pos
    have hal := Pt.chkA_len (Pt.chk_mem h.ok d[j] (List.getElem_mem hj)).2.2.2
    rw [List.length_map] at q1
    obtain ⟨n, hn⟩ : ∃ n, n = d.length := ⟨_, rfl⟩
    obtain ⟨m, hm⟩ : ∃ m, m = d[j].ats.length := ⟨_, rfl⟩
    obtain ⟨x, hxx⟩ : ∃ x, x = d[j].doc := ⟨_, rfl⟩
    rw [← hH] at q0
    rw [← hn] at q1 t1
    rw [← hm] at t3 ha
    rw [← hxx] at t2
    have hjn : j < n := by rw [hn]; exact hj
    have HK : Hid (∀ W, Below w.heap.size w W → W.cell? ⟨p, 0, none⟩ = some (.slice (some ⟨gt, 0, none⟩) H ct1) ∧ W.cell? ⟨p, 1, none⟩ = some (.slice (some ⟨gp, 0, none⟩) n cp1) ∧ W.cell? ⟨p, 2, none⟩ = some (.int .i64 j) ∧ W.cell? ⟨gt, 0, none⟩ = some (.slice (some ⟨gf, 0, none⟩) n cf) ∧ W.cell? ⟨gf, j, none⟩ = some (.int .i64 x) ∧ W.cell? ⟨gp, j, none⟩ = some (.slice aa m ca)) := fun W hW =>
      ⟨(hW.cell (p := ⟨p, 0, none⟩) hpl).trans q0, (hW.cell (p := ⟨p, 1, none⟩) hpl).trans q1, (hW.cell (p := ⟨p, 2, none⟩) hpl).trans q2, (hW.cell (p := ⟨gt, 0, none⟩) gt1).trans t1, (hW.cell (p := ⟨gf, j, none⟩) gf1).trans t2, (hW.cell (p := ⟨gp, j, none⟩) gp1).trans t3⟩
    have HCL : Hid (∀ W, Below w.heap.size w W → Calls Try.prog 36 #[.slice aa m ca] W fun e w' => ∃ v', e = .returned v' ∧ OwnI w' W.heap.size v' d[j].ats ∧ Below W.heap.size W w') := fun W hW => clone_any W _ _ (ha.intF.keep hW.size fun g _ hg => hW.block g hg) (by omega)
    rw [decide_eq_true hk] at hs
    have HJ : Hid (∃ hj : j < d.length, x = d[j].doc) := ⟨hj, hxx⟩
    have HM := Lib.hid hm
    have hj0 : (j : Int) < (n : Int) := by omega
    clear h h1 h3 h4 h6 ht gt2 hf f3 f5 hvf hp gp2 t1 t2 t3 q0 q1 q2 ha hk hH hn hm hxx hal
    go_enter Try.func20, Try.ntmps20
    go_wp2_with (go_at_call 38; refine hs.out.mono ?_; rintro e1 w2 ⟨rfl, hb2⟩; have HB2 := Lib.hid (hb.out.trans (hb2.mono hb.out.size)); have HX : Hid (w2.drew.heap[w.heap.size]? = some (.cells #[.int .i64 0, .slice none 0 0] 40 (0, 0))) := (hb2.block _ (blk_lt hx.out)).trans hx.out; clear hb2)
    have hq0 : Below w.heap.size w w2.drew := HB2.out.drew
    go_region_held3 (fun W => (W.cell? ⟨p, 0, none⟩ = some (.slice (some ⟨gt, 0, none⟩) H ct1) ∧ W.cell? ⟨p, 1, none⟩ = some (.slice (some ⟨gp, 0, none⟩) n cp1) ∧ W.cell? ⟨p, 2, none⟩ = some (.int .i64 j) ∧ W.cell? ⟨gt, 0, none⟩ = some (.slice (some ⟨gf, 0, none⟩) n cf) ∧ W.cell? ⟨gf, j, none⟩ = some (.int .i64 x) ∧ W.cell? ⟨gp, j, none⟩ = some (.slice aa m ca))) (first | exact HK.out _ (by assumption) | exact HK.out _ ((hq7.setCell (p := ⟨w.heap.size, 0, none⟩) (Nat.le_refl _) _).setCell (p := ⟨w.heap.size, 1, none⟩) (Nat.le_refl _) _)) ((go_at_call 36; refine (HCL.out _ (by assumption)).mono ?_; rintro e1 w7 ⟨v7, rfl, hO7, hb7⟩; have hq7 : Below w.heap.size w w7 := hq0.trans (hb7.mono hq0.size); have HO7 := Lib.hid hO7; obtain ⟨a7, c7, f7⟩ := hO7.form; rw [← HM.out] at f7; have HX7 : Hid (w7.heap[w.heap.size]? = some (.cells #[.int .i64 0, .slice none 0 0] 40 (0, 0))) := (hb7.block _ (blk_lt HX.out)).trans HX.out; have y1 : w7.cell? ⟨w.heap.size, 0, none⟩ = some (.int .i64 0) := (by simp [World.cell?, HX7.out]); have y2 : w7.cell? ⟨w.heap.size, 1, none⟩ = some (.slice none 0 0) := (by simp [World.cell?, HX7.out]); have y3 : ∀ j, w7.frozen? ⟨w.heap.size, j, none⟩ = false := (fun j => by simp [World.frozen?, HX7.out]); have z2 : (w7.setCell ⟨w.heap.size, 0, none⟩ (.int .i64 x)).cell? ⟨w.heap.size, 1, none⟩ = some (.slice none 0 0) := (by simp [World.cell?, heap_set w7 w.heap.size 0 (.int .i64 x) _ _ _ HX7.out]); have z3 : ∀ j, (w7.setCell ⟨w.heap.size, 0, none⟩ (.int .i64 x)).frozen? ⟨w.heap.size, j, none⟩ = false := (fun j => by simp [World.frozen?, heap_set w7 w.heap.size 0 (.int .i64 x) _ _ _ HX7.out]); clear hO7 hb7; subst f7))
    have hqq : Hid (((w7.setCell ⟨w.heap.size, 0, none⟩ (.int .i64 x)).setCell ⟨w.heap.size, 1, none⟩ (.slice a7 m c7)).heap[w.heap.size]? = some (.cells #[.int .i64 x, .slice a7 m c7] 40 (0, 0))) := heap_set _ _ _ _ _ _ _ (heap_set _ _ _ _ _ _ _ HX7.out)
    have HB7 := Lib.hid hq7
    have HSZ := Lib.hid hq0.size
    clear y1 y2 y3 z2 z3 hq7 hq0
    go_wp2_with fail
    refine bodyPost_ret (results_ct rfl _ _ ⟨w.heap.size, 0, none⟩ (.agg #[.int .i64 x, .slice a7 m c7]) rfl (loadP _ _ _ _ hqq.out)) rfl ?_
    obtain ⟨hj2, hx2⟩ := HJ.out
    refine ⟨(HB7.out.setCell (p := ⟨w.heap.size, 0, none⟩) (Nat.le_refl _) _).setCell (p := ⟨w.heap.size, 1, none⟩) (Nat.le_refl _) _, .inr ⟨j, hj2, .slice a7 m c7, rfl, by rw [← hx2]; rfl, ?_⟩⟩
    have far : ∀ q, q ≠ w.heap.size → ((w7.setCell ⟨w.heap.size, 0, none⟩ (.int .i64 x)).setCell ⟨w.heap.size, 1, none⟩ (.slice a7 m c7)).heap[q]? = w7.heap[q]? := fun q e => by rw [heap_other _ _ _ _ _ e, heap_other _ _ _ _ _ e]
    exact (HO7.out.keepB fun q hq => far q fun e => HO7.out.far HX7.out (by decide) (e ▸ hq)).base HSZ.out
  · rw [decide_eq_false hk] at hs
    have HKK := Lib.hid hk
    clear hk h
    go_enter Try.func20, Try.ntmps20
    go_wp2_with (go_at_call 38; refine hs.out.mono ?_; rintro e1 w2 ⟨rfl, hb2⟩; have HB := Lib.hid (hb.out.trans (hb2.mono hb.out.size)); have HX : Hid (w2.heap[w.heap.size]? = some (.cells #[.int .i64 0, .slice none 0 0] 40 (0, 0))) := (hb2.block _ (blk_lt hx.out)).trans hx.out; have y1 : w2.cell? ⟨w.heap.size, 0, none⟩ = some (.int .i64 0) := (by simp [World.cell?, HX.out]); have y2 : w2.cell? ⟨w.heap.size, 1, none⟩ = some (.slice none 0 0) := (by simp [World.cell?, HX.out]); have y3 : ∀ j, w2.frozen? ⟨w.heap.size, j, none⟩ = false := (fun j => by simp [World.frozen?, HX.out]); have z2 : (w2.setCell ⟨w.heap.size, 0, none⟩ (.int .i64 0)).cell? ⟨w.heap.size, 1, none⟩ = some (.slice none 0 0) := (by simp [World.cell?, heap_set w2 w.heap.size 0 (.int .i64 0) _ _ _ HX.out]); have z3 : ∀ j, (w2.setCell ⟨w.heap.size, 0, none⟩ (.int .i64 0)).frozen? ⟨w.heap.size, j, none⟩ = false := (fun j => by simp [World.frozen?, heap_set w2 w.heap.size 0 (.int .i64 0) _ _ _ HX.out]); clear hb2)
    have hq : Hid (((w2.setCell ⟨w.heap.size, 0, none⟩ (.int .i64 0)).setCell ⟨w.heap.size, 1, none⟩ (.slice none 0 0)).heap[w.heap.size]? = some (.cells #[.int .i64 0, .slice none 0 0] 40 (0, 0))) := heap_set _ _ _ _ _ _ _ (heap_set _ _ _ _ _ _ _ HX.out)
    refine bodyPost_ret (results_ct rfl _ _ ⟨w.heap.size, 0, none⟩ (.agg #[.int .i64 0, .slice none 0 0]) rfl (loadP _ _ _ _ hq.out)) rfl ?_
    exact ⟨(HB.out.setCell (p := ⟨w.heap.size, 0, none⟩) (Nat.le_refl _) _).setCell (p := ⟨w.heap.size, 1, none⟩) (Nat.le_refl _) _, .inl ⟨HKK.out, rfl⟩⟩
end Go.Proofs.Ytokdjaljeckghaa
/-
  Two cursors at once.
-/
namespace Go.Proofs.Ytokdjaljeckghaa
open Go.RowKit
theorem TowM.base {w : World} {R B R' B' : Nat} {v : Value} {T : List (List Int)} {vs : List Value} (h : TowM w R B v T vs) (hR : R' ≤ R) (hB : B' ≤ B) : TowM w R' B' v T vs :=
  ⟨ownsRow_base h.own hR, h.len, fun j h1 h2 => (h.each j h1 h2).base hB⟩
theorem CurM.base' {w : World} {B B' p : Nat} {d : List Pt.Po} {k : Int} (h : CurM w B p d k) (hB : B' ≤ B) : CurM w B' p d k := by
  obtain ⟨tv, pv, T, vT, vP, R, h1, h2, h3, h4, h5, h6⟩ := h.mem
  exact ⟨Nat.le_trans hB h.base, ⟨tv, pv, T, vT, vP, R, h1, Nat.le_trans hB h2, h3.base (Nat.le_refl _) hB, h4, h5, h6.base hB hB⟩, h.ok⟩
theorem CurM.blk {w : World} {B p : Nat} {d : List Pt.Po} {k : Int} (h : CurM w B p d k) : ∃ cs : Array Value, w.heap[p]? = some (.cells cs 80 (0, 0)) := by
  obtain ⟨tv, pv, T, vT, vP, R, h1, _⟩ := h.mem
  exact ⟨_, h1⟩
/-- One cursor stays where another goes on. -/
theorem CurM.aside {w w' : World} {B p q : Nat} {d : List Pt.Po} {k : Int} (h : CurM w B p d k) (hq : ∃ cs : Array Value, w.heap[q]? = some (.cells cs 80 (0, 0))) (hne : p ≠ q) (ho : Only q w w') : CurM w' B p d k := by
  obtain ⟨tv, pv, T, vT, vP, R, h1, h2, h3, h4, h5, h6⟩ := h.mem
  obtain ⟨cs, hq⟩ := hq
  have far : ∀ (g : Nat) (c : Array Value), (w.heap[g]? = some (.cells c 3 (0, 0)) ∨ w.heap[g]? = some (.cells c 38 (0, 0))) → w'.heap[g]? = w.heap[g]? := fun g c hg => by
    rcases hg with hg | hg
    · exact ho.2.1 g (blk_lt hg) (kinds_ne hg hq (by decide))
    · exact ho.2.1 g (blk_lt hg) (kinds_ne hg hq (by decide))
  exact ⟨h.base, ⟨tv, pv, T, vT, vP, R, (ho.2.1 p (blk_lt h1) hne).trans h1, h2, h3.kinds far, h4, h5, h6.kinds far⟩, h.ok⟩
/-- Two cursors over the same postings, in memory of the call's own. -/
structure Pair (w0 w : World) (p q : Nat) (d : List Pt.Po) (j k : Int) : Prop where
  one : CurM w w0.heap.size p d j
  two : CurM w w0.heap.size q d k
  ne : p ≠ q
  old : Below w0.heap.size w0 w
theorem Pair.swap {w0 w : World} {p q : Nat} {d : List Pt.Po} {j k : Int} (h : Pair w0 w p q d j k) : Pair w0 w q p d k j := ⟨h.two, h.one, h.ne.symm, h.old⟩
theorem Pair.below {w0 w w' : World} {p q : Nat} {d : List Pt.Po} {j k : Int} (h : Pair w0 w p q d j k) (hb : Below w.heap.size w w') : Pair w0 w' p q d j k :=
  ⟨h.one.below hb, h.two.below hb, h.ne, h.old.trans (hb.mono h.old.size)⟩
theorem Pair.go {w0 w w' : World} {p q : Nat} {d : List Pt.Po} {j k j' : Int} (h : Pair w0 w p q d j k) (hc : CurM w' w0.heap.size p d j') (ho : Only p w w') : Pair w0 w' p q d j' k :=
  ⟨hc, h.two.aside h.one.blk h.ne.symm ho, h.ne, h.old.trans (ho.2.2 _ h.one.base)⟩
theorem pair_next {w0 w : World} {p q : Nat} {d : List Pt.Po} {j k : Int} (h : Pair w0 w p q d j k) (j0 : -1 ≤ j) (j1 : j ≤ d.length) (b : Bool) (hb : decide (j + 1 < d.length) = b) (j' : Int) (hj : min (j + 1) d.length = j') :
    Calls Try.prog 21 #[.pointer (some ⟨p, 0, none⟩)] w fun e w' => e = .returned (.bool b) ∧ Pair w0 w' p q d j' k ∧ Only p w w' := by
  refine (next_any w _ p d j h.one j0 j1).mono ?_
  rintro e w1 ⟨rfl, hc, ho⟩
  rw [hj] at hc
  exact ⟨by rw [hb], h.go hc ho, ho⟩
theorem pair_adv {w0 w : World} {p q : Nat} {d : List Pt.Po} {j k : Int} (h : Pair w0 w p q d j k) (kn : Nat) (hkn : max j 0 = (kn : Int)) (k1 : kn ≤ d.length) (x : Int) (j' : Nat) (hj : Pt.adv d x kn = j') (b : Bool) (hb : decide (j' < d.length) = b) :
    Calls Try.prog 22 #[.pointer (some ⟨p, 0, none⟩), .int .i64 x] w fun e w' => e = .returned (.bool b) ∧ Pair w0 w' p q d j' k ∧ Only p w w' := by
  refine (advance_any w _ p d j h.one kn hkn k1 x).mono ?_
  rintro e w1 ⟨rfl, hc, ho⟩
  rw [hj] at hc ⊢
  exact ⟨by rw [hb], h.go hc ho, ho⟩
theorem pair_post {w0 w : World} {p q : Nat} {d : List Pt.Po} {j k : Int} (h : Pair w0 w p q d j k) (i : Nat) (hi : i < d.length) (hj : j = (i : Int)) (x : Int) (l : List Int) (hx : d[i].doc = x) (hl : d[i].ats = l) :
    Calls Try.prog 20 #[.pointer (some ⟨p, 0, none⟩)] w fun e w' => ∃ va, e = .returned (.tuple #[.agg #[.int .i64 x, va], .bool true]) ∧ IntF (fun _ => True) w' va l ∧ Below w.heap.size w w' ∧ Pair w0 w' p q d j k := by
  refine (post_any w _ p d j h.one).mono ?_
  rintro e w1 ⟨hb, (⟨h1, h2⟩ | ⟨i', hi', va, h1, h2, h3⟩)⟩
  · exact absurd (by omega) h1
  · obtain rfl : i' = i := by omega
    rw [hx] at h2
    rw [hl] at h3
    exact ⟨va, h2, h3.intF.wide fun _ _ _ => trivial, hb, h.below hb⟩
/-- Another cursor, made behind the first. -/
theorem pair_new {w0 w w' : World} {p q : Nat} {d : List Pt.Po} {j k : Int} (hp : CurM w w0.heap.size p d j) (ho : Below w0.heap.size w0 w) (hq : CurM w' w.heap.size q d k) (hb : Below w.heap.size w w') : Pair w0 w' p q d j k :=
  ⟨hp.below hb, hq.base' ho.size, fun e => Nat.lt_irrefl p (Nat.lt_of_lt_of_le hp.lt (by rw [e]; exact hq.base)), ho.trans (hb.mono ho.size)⟩
end Go.Proofs.Ytokdjaljeckghaa
