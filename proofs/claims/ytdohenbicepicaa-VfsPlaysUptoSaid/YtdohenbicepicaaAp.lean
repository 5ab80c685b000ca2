/-
  Lists of texts that share no memory: what Apart's marks are, and the lists while they are marked.
-/
import Derived.Test.YtdohenbicepicaaLa
import Derived.Deep.AppendLies
import Derived.Laws.OwnMore
namespace Go.Proofs.Ytdohenbicepicaa
open Go.RowKit Go.Maps

namespace Ap
abbrev marks : ByteArray := ⟨#[97, 98, 99, 100, 101, 102, 103, 104, 105, 106, 107, 108, 109, 110, 111, 112, 113, 114, 115, 116, 117, 118, 119, 120, 121, 122]⟩
def was (i : Nat) : ByteArray := (⟨#[119, 97, 115]⟩ : ByteArray) ++ marks.extract i (i + 1)
def new (i : Nat) : ByteArray := (⟨#[110, 101, 119]⟩ : ByteArray) ++ marks.extract i (i + 1)
/-- The slice of slices lies at g: it holds the N values vs, each a list of its own. -/
structure In (w : World) (B g N : Nat) (vs : Nat → Value) (ls : Nat → List ByteArray) : Prop where
  row : ∀ j, j < N → w.cell? ⟨g, j, none⟩ = some (vs j)
  own : ∀ j, j < N → OwnS w B (vs j) (ls j)
  len : ∀ j, j < N → (ls j).length ≤ 1073741824
  two : ∀ j k, j < N → k < N → j ≠ k → ∀ b, (vs j).ownBlock = some b → (vs k).ownBlock ≠ some b
  out : ∀ j, j < N → (vs j).ownBlock ≠ some g
  lt : g < w.heap.size
  low : B ≤ w.heap.size
/-- i lists are marked, and k texts of the next one. -/
structure P1 (w wx : World) (B g N : Nat) (vs : Nat → Value) (ns : Nat → Nat) (i k : Nat) : Prop where
  st : ∃ L : Nat → List ByteArray, In wx B g N vs L ∧ (∀ j, j < N → (L j).length = ns j) ∧ ∀ j q, j < N → q < ns j → (j < i ∨ j = i ∧ q < k) → (L j)[q]? = some (was j)
  bel : Below B w wx
theorem In.drew {w : World} {B g N : Nat} {vs : Nat → Value} {ls : Nat → List ByteArray} (h : In w B g N vs ls) : In w.drew B g N vs ls := ⟨h.row, h.own, h.len, h.two, h.out, h.lt, h.low⟩
theorem P1.drew {w wx : World} {B g N : Nat} {vs : Nat → Value} {ns : Nat → Nat} {i k : Nat} (h : P1 w wx B g N vs ns i k) : P1 w wx.drew B g N vs ns i k := by
  obtain ⟨⟨L, h1, h2⟩, h3⟩ := h
  exact ⟨⟨L, h1.drew, h2⟩, h3.drew⟩
theorem ownS_form {w : World} {B : Nat} {v : Value} {l : List ByteArray} (h : OwnS w B v l) : (∃ a cap, v = .slice a l.length cap) ∧ (0 < l.length → ∃ b cap, v = .slice (some ⟨b, 0, none⟩) l.length cap ∧ b < w.heap.size ∧ (∀ q, w.frozen? ⟨b, q, none⟩ = false) ∧ ∀ q (_ : q < l.length), w.cell? ⟨b, q, none⟩ = some (.string l[q])) := by
  refine ⟨ownsRow_form h, fun h0 => ?_⟩
  obtain ⟨b, cap, rfl, _, hlt⟩ := World.ownsRow.form h h0
  refine ⟨b, cap, rfl, hlt, fun q => World.ownsRow.frozenAt h q, fun q hq => ?_⟩
  rw [World.ownsRow.cellAt h q (by omega)]
  unfold strsV
  rw [List.getElem?_map, List.getElem?_eq_getElem hq]
  rfl
theorem P1.start {w : World} {B g N : Nat} {vs : Nat → Value} {ls : Nat → List ByteArray} (h : In w B g N vs ls) : P1 w w B g N vs (fun j => (ls j).length) 0 0 :=
  ⟨⟨ls, h, fun _ _ => rfl, fun j q _ _ hq => by omega⟩, Below.refl _ _⟩
theorem P1.next {w wx : World} {B g N : Nat} {vs : Nat → Value} {ns : Nat → Nat} {i : Nat} (h : P1 w wx B g N vs ns i (ns i)) : P1 w wx B g N vs ns (i + 1) 0 := by
  obtain ⟨⟨L, h1, h2, h3⟩, h4⟩ := h
  exact ⟨⟨L, h1, h2, fun j q hj hq hx => h3 j q hj hq (by
    by_cases e : j = i
    · subst e; exact .inr ⟨rfl, hq⟩
    · exact .inl (by omega))⟩, h4⟩
/-- What is known of the next text. -/
theorem P1.look {w wx : World} {B g N : Nat} {vs : Nat → Value} {ns : Nat → Nat} {i k : Nat} (h : P1 w wx B g N vs ns i k) (hi : i < N) (hk : k < ns i) :
    ∃ b cap s, vs i = .slice (some ⟨b, 0, none⟩) (ns i) cap ∧ b < wx.heap.size ∧ wx.cell? ⟨g, i, none⟩ = some (.slice (some ⟨b, 0, none⟩) (ns i) cap) ∧ wx.frozen? ⟨b, k, none⟩ = false ∧ wx.cell? ⟨b, k, none⟩ = some (.string s) ∧
      P1 w (wx.setCell ⟨b, k, none⟩ (.string (was i))) B g N vs ns i (k + 1) := by
  obtain ⟨⟨L, h1, h2, h3⟩, h4⟩ := h
  have hl := h2 i hi
  obtain ⟨b, cap, hv, hb, hf, hc⟩ := (ownS_form (h1.own i hi)).2 (by omega)
  rw [hl] at hv
  have hown : wx.ownsRow B 9 1 (.slice (some ⟨b, 0, none⟩) (L i).length cap) (L i).length (strsV (L i)) := by
    have := h1.own i hi
    rw [hv, ← hl] at this
    exact this
  have hB : B ≤ b := (hown.lt b rfl).1
  have hst := (hown.stored k (.string (was i))).1
  have hbi : (vs i).ownBlock = some b := by rw [hv]; rfl
  have hbg : b ≠ g := fun e => h1.out i hi (by rw [hbi, e])
  have hsz : (wx.setCell ⟨b, k, none⟩ (.string (was i))).heap.size = wx.heap.size := by simp [World.setCell]
  refine ⟨b, cap, (L i)[k]'(by omega), hv, hb, by rw [← hv]; exact h1.row i hi, hf k, hc k (by omega), ⟨⟨fun j => if j = i then (L i).set k (was i) else L j, ⟨?_, ?_, ?_, h1.two, h1.out, ?_, ?_⟩, ?_, ?_⟩, ?_⟩⟩
  · intro j hj
    exact (World.cell?_of_block (heap_other _ _ _ _ _ (fun e => hbg e.symm))).trans (h1.row j hj)
  · intro j hj
    by_cases e : j = i
    · subst e
      simp only [if_true]
      unfold OwnS
      rw [hv]
      have e2 : strsV ((L j).set k (was j)) = (strsV (L j)).set k (.string (was j)) := by unfold strsV; rw [List.map_set]
      rw [e2, List.length_set, ← hl]
      exact hst
    · simp only [if_neg e]
      refine ownsRow_keep (h1.own j hj) fun q hq => heap_other _ _ _ _ _ (fun e2 => ?_)
      subst e2
      exact h1.two i j hi hj (fun e3 => e e3.symm) q hbi hq
  · intro j hj
    by_cases e : j = i
    · subst e; simp only [if_true, List.length_set]; exact h1.len j hj
    · simp only [if_neg e]; exact h1.len j hj
  · rw [hsz]; exact h1.lt
  · rw [hsz]; exact h1.low
  · intro j hj
    by_cases e : j = i
    · subst e; simp only [if_true, List.length_set]; exact hl
    · simp only [if_neg e]; exact h2 j hj
  · intro j q hj hq hx
    by_cases e : j = i
    · subst e
      simp only [if_true]
      rw [List.getElem?_set]
      by_cases e2 : k = q
      · subst e2
        rw [if_pos rfl, if_pos (by omega)]
      · rw [if_neg e2]
        exact h3 j q hj hq (by omega)
    · simp only [if_neg e]
      exact h3 j q hj hq (by omega)
  · exact h4.setCell hB _
theorem P1.form {w wx : World} {B g N : Nat} {vs : Nat → Value} {ns : Nat → Nat} {i k j : Nat} (h : P1 w wx B g N vs ns i k) (hj : j < N) : ∃ a cap, vs j = .slice a (ns j) cap ∧ wx.cell? ⟨g, j, none⟩ = some (.slice a (ns j) cap) := by
  obtain ⟨⟨L, h1, h2, h3⟩, h4⟩ := h
  obtain ⟨a, cap, hv⟩ := (ownS_form (h1.own j hj)).1
  rw [h2 j hj] at hv
  exact ⟨a, cap, hv, by rw [← hv]; exact h1.row j hj⟩
theorem P1.done {w wx : World} {B g N : Nat} {vs : Nat → Value} {ns : Nat → Nat} (h : P1 w wx B g N vs ns N 0) : In wx B g N vs (fun j => List.replicate (ns j) (was j)) ∧ Below B w wx := by
  obtain ⟨⟨L, h1, h2, h3⟩, h4⟩ := h
  have e : ∀ j, j < N → L j = List.replicate (ns j) (was j) := by
    intro j hj
    apply List.ext_getElem?
    intro q
    by_cases hq : q < ns j
    · rw [h3 j q hj hq (.inl hj), List.getElem?_replicate, if_pos hq]
    · rw [List.getElem?_eq_none (by rw [h2 j hj]; omega), List.getElem?_eq_none (by simp; omega)]
  refine ⟨⟨h1.row, fun j hj => ?_, fun j hj => ?_, h1.two, h1.out, h1.lt, h1.low⟩, h4⟩
  · rw [← e j hj]; exact h1.own j hj
  · rw [← e j hj]; exact h1.len j hj
end Ap
end Go.Proofs.Ytdohenbicepicaa
