/-
  Lists of texts that share no memory: one list after another is grown and kept.
-/
import Derived.Test.YtdohenbicepicaaAr
namespace Go.Proofs.Ytdohenbicepicaa
open Go.RowKit Go.Maps

namespace Ap
def W (ns : Nat → Nat) (j : Nat) : List ByteArray := List.replicate (ns j) (was j)
theorem W_len (ns : Nat → Nat) (j : Nat) : (W ns j).length = ns j := by simp [W]
/-- What stays of the lists' places. -/
structure Sta (G B g N : Nat) (vs : Nat → Value) (ns : Nat → Nat) : Prop where
  two : ∀ j k, j < N → k < N → j ≠ k → ∀ b, (vs j).ownBlock = some b → (vs k).ownBlock ≠ some b
  out : ∀ j, j < N → (vs j).ownBlock ≠ some g
  gl : g < G
  lt : ∀ j, j < N → ∀ b, (vs j).ownBlock = some b → b < G
  ge : ∀ j, j < N → ∀ b, (vs j).ownBlock = some b → B ≤ b
  low : B ≤ G
  len : ∀ j, j < N → ns j ≤ 1073741824
structure P2 (w wx : World) (G B g N : Nat) (vs : Nat → Value) (ns : Nat → Nat) (i : Nat) (lv : Value) (X : Nat → Value) : Prop where
  row : ∀ j, j < N → wx.cell? ⟨g, j, none⟩ = some (vs j)
  own : ∀ j, i ≤ j → j < N → OwnS wx B (vs j) (W ns j)
  fin : ∀ j, j < i → SView wx (X j) (W ns j ++ List.replicate 20 (new j)) ∧ SView wx (vs j) (W ns j) ∧ ∀ b, (X j).ownBlock = some b → b < wx.heap.size ∧ lv.ownBlock ≠ some b ∧ ((vs j).ownBlock = some b ∨ G ≤ b)
  lst : wx.ownsRow G 47 1 lv i ((List.range i).map X)
  bel : Below B w wx
  big : G ≤ wx.heap.size
theorem P2.start {w wx : World} {B g N : Nat} {vs : Nat → Value} {ns : Nat → Nat} (h : In wx B g N vs (fun j => List.replicate (ns j) (was j))) (hb : Below B w wx) : Sta wx.heap.size B g N vs ns ∧ P2 w wx wx.heap.size B g N vs ns 0 (.slice none 0 0) vs :=
  ⟨⟨h.two, h.out, h.lt, fun j hj b hb => (World.ownsRow.lt (h.own j hj) b hb).2, fun j hj b hb => (World.ownsRow.lt (h.own j hj) b hb).1, h.low, fun j hj => by have := h.len j hj; simpa using this⟩,
    ⟨h.row, fun j _ hj => h.own j hj, fun j hj => by omega, World.ownsRow_nil _ _ _ _, hb, Nat.le_refl _⟩⟩
theorem P2.lstAt {w wr wx : World} {G B g N : Nat} {vs : Nat → Value} {ns : Nat → Nat} {i : Nat} {lv : Value} {X : Nat → Value} (h : P2 w wr G B g N vs ns i lv X) (S : Sta G B g N vs ns) (hi : i < N) (hk : KeptF (fun b => (vs i).ownBlock = some b) wr wx) : wx.ownsRow G 47 1 lv i ((List.range i).map X) :=
  ownsRow_keep h.lst fun k hk2 => by
    have h1 := h.lst.lt k hk2
    exact hk.block k h1.2 (fun e => by have := S.lt i hi k e; omega)
theorem P2.next {w wr wx w' : World} {G B g N : Nat} {vs : Nat → Value} {ns : Nat → Nat} {i : Nat} {lv lv' x : Value} {X : Nat → Value} (h : P2 w wr G B g N vs ns i lv X) (S : Sta G B g N vs ns) (hi : i < N)
    (q : Q2 wr wx B (vs i) (W ns i) (new i) 20 x) (ho : w'.ownsRow G 47 1 lv' (i + 1) ((List.range i).map X ++ [x])) (ht : Two wx w' lv lv') : P2 w w' G B g N vs ns (i + 1) lv' (fun j => if j = i then x else X j) := by
  have hs := q.kept.size
  have hs2 := ht.size
  have hbig := h.big
  have hl1 : (W ns i).length ≤ 4611686018427387904 := by rw [W_len]; have := S.len i hi; omega
  have hlv : ∀ b, lv.ownBlock = some b → G ≤ b ∧ b < wr.heap.size := fun b hb => h.lst.lt b hb
  have keep : ∀ k, k < wr.heap.size → (vs i).ownBlock ≠ some k → lv.ownBlock ≠ some k → w'.heap[k]? = wr.heap[k]? := fun k h1 h2 h3 =>
    (ht.far (by omega) h3).trans (q.kept.block k h1 h2)
  have vkeep : ∀ j, j < N → j ≠ i → ∀ k, (vs j).ownBlock = some k → w'.heap[k]? = wr.heap[k]? := fun j hj hji k hk => by
    have h1 := S.lt j hj k hk
    exact keep k (by omega) (S.two j i hj hi hji k hk) (fun e => by have := (hlv k e).1; omega)
  have hvi := q.view (h.own i (Nat.le_refl _) hi) hl1
  have xlt : ∀ b, x.ownBlock = some b → b < wx.heap.size := fun b hb => (World.ownsRow.lt q.own b hb).2
  have xat : ∀ b, x.ownBlock = some b → (vs i).ownBlock = some b ∨ wr.heap.size ≤ b := fun b hb => by
    rcases q.alt with h1 | h1
    · exact .inl (h1 ▸ hb)
    · exact .inr (h1.1 b hb)
  have xlv : ∀ b, x.ownBlock = some b → lv.ownBlock ≠ some b := fun b hb e => by
    have h2 := hlv b e
    rcases xat b hb with h1 | h1
    · have := S.lt i hi b h1; omega
    · omega
  refine ⟨fun j hj => ?_, fun j hj1 hj => ?_, fun j hj => ?_, ?_, ?_, by omega⟩
  · exact (World.cell?_of_block (keep g (by have := S.gl; omega) (S.out i hi) (fun e => by have := (hlv g e).1; have := S.gl; omega))).trans (h.row j hj)
  · exact ownsRow_keep (h.own j (by omega) hj) fun k hk => vkeep j hj (by omega) k hk
  · by_cases e : j = i
    · subst e
      simp only [if_true]
      refine ⟨?_, ?_, fun b hb => ⟨by have := xlt b hb; omega, fun e => ?_, ?_⟩⟩
      · refine (OwnS.view q.own (by simp [W_len]; have := S.len j hi; omega)).keep (fun k hk => ?_) hs2
        exact ht.far (xlt k hk) (xlv k hk)
      · refine hvi.keep (fun k hk => ?_) hs2
        exact ht.far (by have := S.lt j hi k hk; omega) (fun e => by have := (hlv k e).1; have := S.lt j hi k hk; omega)
      · rcases ht.at e with h1 | h1
        · exact xlv b hb h1
        · have := xlt b hb; omega
      · rcases xat b hb with h1 | h1
        · exact .inl h1
        · exact .inr (by omega)
    · simp only [if_neg e]
      obtain ⟨f1, f2, f3⟩ := h.fin j (by omega)
      refine ⟨f1.keep (fun k hk => ?_) (by omega), f2.keep (fun k hk => vkeep j (by omega) e k hk) (by omega), fun b hb => ?_⟩
      · obtain ⟨g1, g2, g3⟩ := f3 k hk
        refine keep k g1 (fun e2 => ?_) g2
        rcases g3 with g3 | g3
        · exact S.two j i (by omega) hi e k g3 e2
        · have := S.lt i hi k e2; omega
      · obtain ⟨g1, g2, g3⟩ := f3 b hb
        refine ⟨by omega, fun e2 => ?_, g3⟩
        rcases ht.at e2 with h1 | h1
        · exact g2 h1
        · omega
  · have e : (List.range (i + 1)).map (fun j => if j = i then x else X j) = (List.range i).map X ++ [x] := by
      rw [List.range_succ, List.map_append]
      congr 1
      · apply List.map_congr_left
        intro j hj
        have := List.mem_range.1 hj
        rw [if_neg (by omega)]
      · simp
    rw [e]
    exact ho
  · obtain ⟨e1, e2, e3⟩ := ht.rest
    have hk : KeptF (fun b => B ≤ b) wr w' := ⟨e1.trans q.kept.os, e2.trans q.kept.tape, e3.trans q.kept.output, by omega, fun k hk hf => keep k hk (fun e => hf (S.ge i hi k e)) (fun e => hf (by have := (hlv k e).1; have := S.low; omega))⟩
    exact KeptF.below h.bel hk (fun k hk => hk) (by have := S.low; omega)
theorem P2.form {w wx : World} {G B g N : Nat} {vs : Nat → Value} {ns : Nat → Nat} {i : Nat} {lv : Value} {X : Nat → Value} (h : P2 w wx G B g N vs ns i lv X) (hi : i < N) : ∃ a c, vs i = .slice a (ns i) c ∧ wx.cell? ⟨g, i, none⟩ = some (.slice a (ns i) c) := by
  obtain ⟨⟨a, c, hv⟩, _⟩ := ownS_form (h.own i (Nat.le_refl _) hi)
  rw [W_len] at hv
  exact ⟨a, c, hv, by rw [← hv]; exact h.row i hi⟩
/-- What is seen in the end. -/
theorem P2.seen {w wx : World} {G B g N : Nat} {vs : Nat → Value} {ns : Nat → Nat} {i : Nat} {lv : Value} {X : Nat → Value} (h : P2 w wx G B g N vs ns N lv X) (hi : i < N) :
    ∃ gl cl bx cx a c, lv = .slice (some ⟨gl, 0, none⟩) N cl ∧ wx.cell? ⟨gl, i, none⟩ = some (.slice (some ⟨bx, 0, none⟩) (ns i + 20) cx) ∧ wx.cell? ⟨g, i, none⟩ = some (.slice a (ns i) c) ∧
      (∀ q, q < ns i → wx.cell? ⟨bx, q, none⟩ = some (.string (was i)) ∧ ∃ b, a = some ⟨b, 0, none⟩ ∧ wx.cell? ⟨b, q, none⟩ = some (.string (was i))) ∧ ∀ q, ns i ≤ q → q < ns i + 20 → wx.cell? ⟨bx, q, none⟩ = some (.string (new i)) := by
  obtain ⟨gl, cl, rfl, _, _⟩ := World.ownsRow.form h.lst (by omega)
  obtain ⟨f1, f2, _⟩ := h.fin i hi
  obtain ⟨ax, cx, e1, _, f3⟩ := f1
  have hl : (W ns i ++ List.replicate 20 (new i)).length = ns i + 20 := by simp [W_len]
  obtain ⟨bx, rfl, _, f4⟩ := f3 (by omega)
  rw [hl] at e1
  obtain ⟨a, c, e2, _, f5⟩ := f2
  rw [W_len] at e2
  refine ⟨gl, cl, bx, cx, a, c, rfl, ?_, ?_, fun q hq => ⟨?_, ?_⟩, fun q h1 h2 => ?_⟩
  · rw [World.ownsRow.cellAt h.lst i (by omega), List.getElem?_map, List.getElem?_range hi, Option.map_some, e1]
  · rw [← e2]; exact h.row i hi
  · rw [f4 q (by omega), List.getElem_append_left (by rw [W_len]; exact hq)]
    simp [W]
  · obtain ⟨b, e3, _, f6⟩ := f5 (by rw [W_len]; omega)
    refine ⟨b, e3, ?_⟩
    rw [f6 q (by rw [W_len]; exact hq)]
    simp [W]
  · rw [f4 q (by omega), List.getElem_append_right (by rw [W_len]; exact h1), List.getElem_replicate]
end Ap
end Go.Proofs.Ytdohenbicepicaa
