/-
  Loose states of the call's own in memory; what copyOf answers.
-/
import Derived.Test.YtmpjhbbcfnffhaaYn
import Derived.Deep.RegionHeld3
import Derived.Deep.DeepCutAuto
namespace Go.Proofs.Ytmpjhbbcfnffhaa
open Go.RowKit

theorem Try.infoLo : (Try.prog.info? 40).map (fun i => (i.zero, i.size, i.bytes)) = some (some (.agg #[.bool false, .slice none 0 0, .slice none 0 0]), 3, 56) := by kernel_rfl
abbrev LoV := Bool × Value × Value
/-- Loose states as cells: is it final, the slices of its arcs and of its free ones. -/
def losV (l : List LoV) : List Value := l.flatMap fun x => [.bool x.1, x.2.1, x.2.2]
theorem losV_length (l : List LoV) : (losV l).length = l.length * 3 := by
  induction l with
  | nil => rfl
  | cons x t ih =>
    show (_ :: _ :: _ :: losV t).length = _
    simp only [List.length_cons, ih]
    omega
theorem losV_snoc (l : List LoV) (x : LoV) : losV l ++ [.bool x.1, x.2.1, x.2.2] = losV (l ++ [x]) := by simp [losV]
theorem losV_at (l : List LoV) : ∀ i (h : i < l.length), (losV l)[i * 3]? = some (.bool l[i].1) ∧ (losV l)[i * 3 + 1]? = some l[i].2.1 ∧ (losV l)[i * 3 + 2]? = some l[i].2.2 := by
  induction l with
  | nil => intro i h; cases h
  | cons x t ih =>
    intro i h
    cases i with
    | zero => exact ⟨rfl, rfl, rfl⟩
    | succ i =>
      simp only [List.length_cons, Nat.add_lt_add_iff_right] at h
      have e : (i + 1) * 3 = i * 3 + 1 + 1 + 1 := by omega
      rw [e]
      exact ih i h
def cell3 (x : LoV) (j : Nat) : Value := if j % 3 = 0 then .bool x.1 else if j % 3 = 1 then x.2.1 else x.2.2
/-- The cell j of a list of loose states, the zero ones behind them. -/
def losCell (l : List LoV) (j : Nat) : Value := cell3 (l.getD (j / 3) (false, .slice none 0 0, .slice none 0 0)) j
theorem losCell_snoc (l : List LoV) (x : LoV) (j : Nat) : (if j = l.length * 3 + 2 then x.2.2 else if j = l.length * 3 + 1 then x.2.1 else if j = l.length * 3 then .bool x.1 else losCell l j) = losCell (l ++ [x]) j := by
  unfold losCell cell3
  have hx : j / 3 = l.length → (l ++ [x]).getD (j / 3) (false, .slice none 0 0, .slice none 0 0) = x := fun e => by rw [e]; simp [List.getD]
  by_cases e2 : j = l.length * 3 + 2
  · rw [if_pos e2, hx (by omega), if_neg (by omega), if_neg (by omega)]
  rw [if_neg e2]
  by_cases e1 : j = l.length * 3 + 1
  · rw [if_pos e1, hx (by omega), if_neg (by omega), if_pos (by omega)]
  rw [if_neg e1]
  by_cases e0 : j = l.length * 3
  · rw [if_pos e0, hx (by omega), if_pos (by omega)]
  rw [if_neg e0]
  have hg : (l ++ [x]).getD (j / 3) (false, .slice none 0 0, .slice none 0 0) = l.getD (j / 3) (false, .slice none 0 0, .slice none 0 0) := by
    by_cases h : j / 3 < l.length
    · simp [List.getD, List.getElem?_append_left h]
    · have h2 : l.length < j / 3 := by omega
      simp [List.getD, List.getElem?_eq_none (show l.length ≤ j / 3 by omega), List.getElem?_eq_none (show (l ++ [x]).length ≤ j / 3 by simp; omega)]
  rw [hg]
theorem losCell_at (l : List LoV) (j : Nat) (h : j < (losV l).length) : (losV l)[j]? = some (losCell l j) := by
  rw [losV_length] at h
  have hk : j / 3 < l.length := by omega
  obtain ⟨a1, a2, a3⟩ := losV_at l (j / 3) hk
  have e : l.getD (j / 3) (false, .slice none 0 0, .slice none 0 0) = l[j / 3] := by simp [List.getD, hk]
  unfold losCell cell3
  rw [e]
  have hm : j % 3 = 0 ∨ j % 3 = 1 ∨ j % 3 = 2 := by omega
  rcases hm with hm | hm | hm
  · rw [if_pos hm, ← a1]; congr 1; omega
  · rw [if_neg (by omega), if_pos hm, ← a2]; congr 1; omega
  · rw [if_neg (by omega), if_neg (by omega), ← a3]; congr 1; omega
/-- Lists of arcs and of free states, each of the call's own, the arcs in blocks apart. -/
structure LoEach (w : World) (B : Nat) (vals : List LoV) (L : List Au.Lo) : Prop where
  len : vals.length = L.length
  each : ∀ j (h : j < vals.length) (h2 : j < L.length), vals[j].1 = L[j].fin ∧ OwnA w B vals[j].2.1 L[j].arcs ∧ OwnZ w B vals[j].2.2 L[j].free
  apart : ∀ i j (hi : i < vals.length) (hj : j < vals.length), i ≠ j → ∀ g, vals[i].2.1.ownBlock = some g → vals[j].2.1.ownBlock ≠ some g
theorem LoEach.nil (w : World) (B : Nat) : LoEach w B [] [] := ⟨rfl, fun j h => by simp at h, fun i j h => by simp at h⟩
theorem LoEach.keep {w w' : World} {B : Nat} {vals : List LoV} {L : List Au.Lo} (h : LoEach w B vals L) (e : ∀ (g : Nat) (c : Array Value) (t : TypeId) (fz : Nat × Nat), w.heap[g]? = some (Obj.cells c t fz) → (t = 42 ∨ t = 3) → B ≤ g → w'.heap[g]? = w.heap[g]?) : LoEach w' B vals L := by
  refine ⟨h.len, fun j a b => ?_, h.apart⟩
  obtain ⟨h1, h2, h3⟩ := h.each j a b
  refine ⟨h1, h2.keep fun k hk => ?_, ownsRow_keep h3 fun k hk => ?_⟩
  · obtain ⟨c, fz, hc⟩ := h2.kind k hk
    exact e k c _ fz hc (.inl rfl) (h2.lt k hk).1
  · obtain ⟨hb, _, c, fz, hc⟩ := h3.kind k hk
    exact e k c _ fz hc (.inr rfl) hb
theorem LoEach.below {w w' : World} {B : Nat} {vals : List LoV} {L : List Au.Lo} (h : LoEach w B vals L) (hb : Below w.heap.size w w') : LoEach w' B vals L := h.keep fun _ _ _ _ hg _ _ => hb.block _ (Array.getElem?_eq_some_iff.1 hg).1
/-- One more, its lists in new blocks. -/
theorem LoEach.snoc {w w' : World} {B : Nat} {vals : List LoV} {L : List Au.Lo} (h : LoEach w B vals L) (hb : Below w.heap.size w w') (hB : B ≤ w.heap.size) {va vf : Value} {s : Au.Lo} (ha : OwnA w' w.heap.size va s.arcs) (hf : OwnZ w' w.heap.size vf s.free) : LoEach w' B (vals ++ [(s.fin, va, vf)]) (L ++ [s]) := by
  have h' := h.below hb
  have hl := h.len
  refine ⟨by simp [hl], fun j a b => ?_, fun i j hi hj hne g hg hgj => ?_⟩
  · by_cases e : j < vals.length
    · rw [List.getElem_append_left e, List.getElem_append_left (by omega)]
      exact h'.each j e (by omega)
    · have e' : j = vals.length := by simp at a; omega
      subst e'
      have e2 : (L ++ [s])[vals.length] = s := by simp only [hl, List.getElem_append_right (Nat.le_refl _), Nat.sub_self, List.getElem_cons_zero]
      rw [e2]
      simp only [List.getElem_append_right (Nat.le_refl _), Nat.sub_self, List.getElem_cons_zero]
      exact ⟨trivial, ownsRow_base ha hB, ownsRow_base hf hB⟩
  · have old : ∀ k (hk : k < vals.length) g, vals[k].2.1.ownBlock = some g → g < w.heap.size := fun k hk g hg => ((h.each k hk (by omega)).2.1.lt g hg).2
    have new : ∀ g, va.ownBlock = some g → w.heap.size ≤ g := fun g hg => (ha.lt g hg).1
    by_cases e1 : i < vals.length
    · rw [List.getElem_append_left e1] at hg
      by_cases e2 : j < vals.length
      · rw [List.getElem_append_left e2] at hgj
        exact h.apart i j e1 e2 hne g hg hgj
      · have e' : j = vals.length := by simp at hj; omega
        subst e'
        simp at hgj
        have := old i e1 g hg
        have := new g hgj
        omega
    · have e' : i = vals.length := by simp at hi; omega
      subst e'
      simp at hg
      have e2 : j < vals.length := by simp at hj; omega
      rw [List.getElem_append_left e2] at hgj
      have := old j e2 g hgj
      have := new g hg
      omega
/-- Loose states of the call's own. -/
structure LoO (w : World) (B : Nat) (v : Value) (vals : List LoV) (L : List Au.Lo) : Prop where
  own : w.ownsRow B 40 3 v L.length (losV vals)
  each : LoEach w B vals L
theorem own_of_rowIs {w : World} {B G n : Nat} {vals : List LoV} (h : w.rowIs G 40 (n * 3) (losCell vals)) (hl : vals.length = n) (hB : B ≤ G) (hn : n ≤ 1000) : w.ownsRow B 40 3 (.slice (some ⟨G, 0, none⟩) n n) n (losV vals) := by
  obtain ⟨c, h1, h2, h3⟩ := h
  refine ⟨by rw [losV_length, hl], .inr ⟨G, n, c, rfl, hB, h1, Nat.le_refl _, by unfold maxLen; omega, h2, ?_⟩⟩
  apply List.ext_getElem?
  intro j
  by_cases hj : j < n * 3
  · rw [List.getElem?_take, if_pos hj, Array.getElem?_toList, h3 j hj, losCell_at vals j (by rw [losV_length, hl]; exact hj)]
  · rw [List.getElem?_eq_none (by rw [List.length_take]; omega), List.getElem?_eq_none (by rw [losV_length, hl]; omega)]
theorem makeLo (n : Nat) (hn : n ≤ 1000) (w : World) :
    (Instr.makeSlice 35 (.int .i64 (n : Int)) (.int .i64 (n : Int))).run Try.prog w = .ok (.slice (some ⟨w.heap.size, 0, none⟩) n n) (w.alloc (.cells (madeCells #[.bool false, .slice none 0 0, .slice none 0 0] (n * 3)) 40)) := by
  obtain ⟨ii, hi, hz0, hz1, hz2⟩ := info_parts Try.infoLo
  have h := run_make (P := Try.prog) w 35 40 ii _ Try.underlying35 hi hz0 .i64 .i64 (n : Int) (n : Int) (by omega) (by omega) (by rw [hz2]; omega) (by omega)
  rw [hz1, Int.toNat_natCast] at h
  exact h
theorem madeLo (w : World) (n : Nat) : (w.alloc (.cells (madeCells #[.bool false, .slice none 0 0, .slice none 0 0] (n * 3)) 40)).rowIs w.heap.size 40 (n * 3) (losCell []) := by
  refine ⟨_, Go.Deep.blk_alloc_new _ _, by rw [size_madeCells], fun i hi => ?_⟩
  have : i % 3 = 0 ∨ i % 3 = 1 ∨ i % 3 = 2 := by omega
  rcases this with h | h | h <;> simp [madeCells, losCell, cell3, h, hi]
end Go.Proofs.Ytmpjhbbcfnffhaa
