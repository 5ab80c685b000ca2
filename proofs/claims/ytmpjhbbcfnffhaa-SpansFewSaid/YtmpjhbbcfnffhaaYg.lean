/-
  Rows in memory: a list of the call's own, each row in a block of its own; append onto it.
-/
import Derived.Test.YtmpjhbbcfnffhaaYf
namespace Go.Proofs.Ytmpjhbbcfnffhaa
open Go.RowKit

theorem Try.infoRR : (Try.prog.info? 24).map (fun i => (i.zero, i.size, i.bytes)) = some (some (.slice none 0 0), 1, 24) := by kernel_rfl
def rowVs (gs : List Nat) (L : List (List (Int × Int))) : List Value := (gs.zip L).map fun p => .slice (some ⟨p.1, 0, none⟩) p.2.length p.2.length
theorem rowVs_length {gs : List Nat} {L : List (List (Int × Int))} (h : gs.length = L.length) : (rowVs gs L).length = L.length := by simp [rowVs, h]
theorem rowVs_at {gs : List Nat} {L : List (List (Int × Int))} (j : Nat) (h1 : j < gs.length) (h2 : j < L.length) : (rowVs gs L)[j]? = some (.slice (some ⟨gs[j], 0, none⟩) L[j].length L[j].length) := by
  unfold rowVs
  rw [List.getElem?_map, List.getElem?_eq_getElem (by simp; omega)]
  simp
theorem rowVs_snoc {gs : List Nat} {L : List (List (Int × Int))} (h : gs.length = L.length) (g : Nat) (r : List (Int × Int)) : rowVs gs L ++ [.slice (some ⟨g, 0, none⟩) r.length r.length] = rowVs (gs ++ [g]) (L ++ [r]) := by
  unfold rowVs
  rw [List.zip_append h]
  simp
/-- The rows of the call's own. -/
structure RowsO (w : World) (B : Nat) (v : Value) (gs : List Nat) (L : List (List (Int × Int))) : Prop where
  own : w.ownsRow B 24 1 v L.length (rowVs gs L)
  len : gs.length = L.length
  row : ∀ j (h : j < gs.length) (h2 : j < L.length), B ≤ gs[j] ∧ RowG w gs[j] L[j]
  inc : gs.Pairwise (· < ·)
theorem RowG.kind {w : World} {g : Nat} {r : List (Int × Int)} (h : RowG w g r) : ∃ (c : Array Value) (fz : Nat × Nat), w.heap[g]? = some (Obj.cells c 26 fz) := by
  obtain ⟨c, h1, _⟩ := id h
  exact ⟨c, _, h1⟩
theorem RowG.of_block {w w' : World} {g : Nat} {r : List (Int × Int)} (h : RowG w g r) (e : w'.heap[g]? = w.heap[g]?) : RowG w' g r := World.rowIs.of_block h e
theorem RowG.lt {w : World} {g : Nat} {r : List (Int × Int)} (h : RowG w g r) : g < w.heap.size := World.rowIs.lt h
theorem RowsO.nil (w : World) (B : Nat) : RowsO w B (.slice none 0 0) [] [] := ⟨World.ownsRow_nil w B _ _, rfl, fun j h => by simp at h, List.Pairwise.nil⟩
theorem RowsO.kind {w : World} {B : Nat} {v : Value} {gs : List Nat} {L : List (List (Int × Int))} (h : RowsO w B v gs L) : ∀ g, v.ownBlock = some g → B ≤ g ∧ g < w.heap.size ∧ ∃ (c : Array Value) (fz : Nat × Nat), w.heap[g]? = some (Obj.cells c 24 fz) := by
  intro g hv
  refine ⟨(World.ownsRow.lt h.own g hv).1, (World.ownsRow.lt h.own g hv).2, ?_⟩
  rcases h.own.2 with ⟨h1, _⟩ | ⟨g', cap, cur, h1, hg, hh, _⟩
  · rw [h1] at hv; cases hv
  · rw [h1] at hv
    obtain rfl : g' = g := by simpa [Value.ownBlock] using hv
    exact ⟨_, _, hh⟩
theorem kinds_neY {w : World} {g k : Nat} {c c' : Array Value} {t t' : TypeId} {fz fz' : Nat × Nat} (h : w.heap[g]? = some (.cells c t fz)) (h' : w.heap[k]? = some (.cells c' t' fz')) (ht : t ≠ t') : g ≠ k := by
  rintro rfl
  rw [h] at h'
  injection h' with h'
  injection h' with _ h2
  exact ht h2
theorem ownsRow_keepY {w w' : World} {B : Nat} {t : TypeId} {z : Nat} {v : Value} {n : Nat} {xs : List Value} (h : w.ownsRow B t z v n xs) (e : ∀ k, v.ownBlock = some k → w'.heap[k]? = w.heap[k]?) : w'.ownsRow B t z v n xs := by
  refine ⟨h.1, ?_⟩
  rcases h.2 with h1 | ⟨g, cap, cur, rfl, hg, hh, hr⟩
  · exact .inl h1
  · exact .inr ⟨g, cap, cur, rfl, hg, (e g rfl).trans hh, hr⟩
theorem RowsO.keep {w w' : World} {B : Nat} {v : Value} {gs : List Nat} {L : List (List (Int × Int))} (h : RowsO w B v gs L) (e : ∀ k, k < w.heap.size → w'.heap[k]? = w.heap[k]?) : RowsO w' B v gs L :=
  ⟨ownsRow_keepY h.own fun k hv => e k (h.kind k hv).2.1, h.len, fun j h1 h2 => ⟨(h.row j h1 h2).1, (h.row j h1 h2).2.of_block (e _ (h.row j h1 h2).2.lt)⟩, h.inc⟩
theorem RowsO.below {w w' : World} {B : Nat} {v : Value} {gs : List Nat} {L : List (List (Int × Int))} (h : RowsO w B v gs L) (hb : Below w.heap.size w w') : RowsO w' B v gs L := h.keep fun k hk => hb.block k hk
theorem RowsO.alloc {w : World} {B : Nat} {v : Value} {gs : List Nat} {L : List (List (Int × Int))} (h : RowsO w B v gs L) (o : Obj) : RowsO (w.alloc o) B v gs L := h.keep fun _ hk => Go.Deep.blk_alloc_lt _ _ _ hk
/-- One row more. -/
theorem RowsO.push {wr w1 : World} {B G : Nat} {v v' : Value} {gs : List Nat} {L : List (List (Int × Int))} {r : List (Int × Int)} {o : Obj} (h : RowsO wr B v gs L) (hG : RowG wr G r) (hB : B ≤ G) (hlt : ∀ g ∈ gs, g < G)
    (h1 : w1.ownsRow B 24 1 v' (L.length + 1) (rowVs gs L ++ [.slice (some ⟨G, 0, none⟩) r.length r.length])) (hg : (wr.alloc o).grownBy w1 v.ownBlock) : RowsO w1 B v' (gs ++ [G]) (L ++ [r]) := by
  have hl := h.len
  have keep : ∀ (k : Nat) (c : Array Value) (fz : Nat × Nat), wr.heap[k]? = some (Obj.cells c 26 fz) → w1.heap[k]? = wr.heap[k]? := fun k c fz hk => by
    obtain ⟨hlk, _⟩ := Array.getElem?_eq_some_iff.1 hk
    rw [hg.block k (by simp; omega) (fun e => ?_), Go.Deep.blk_alloc_lt _ _ _ hlk]
    obtain ⟨_, _, c', fz', hc'⟩ := h.kind k e.symm
    exact kinds_neY hk hc' (by decide) rfl
  refine ⟨?_, by simp [hl], fun j hj hj2 => ?_, ?_⟩
  · rw [rowVs_snoc hl] at h1
    simpa using h1
  · by_cases e : j < gs.length
    · rw [List.getElem_append_left e, List.getElem_append_left (by omega)]
      obtain ⟨q1, q2⟩ := h.row j e (by omega)
      obtain ⟨c, fz, hc⟩ := q2.kind
      exact ⟨q1, q2.of_block (keep _ c fz hc)⟩
    · have e' : j = gs.length := by simp at hj; omega
      subst e'
      simp only [hl, List.getElem_append_right (Nat.le_refl _), Nat.sub_self, List.getElem_cons_zero]
      obtain ⟨c, fz, hc⟩ := hG.kind
      have e3 : (gs ++ [G])[L.length]'(by simp; omega) = G := by simp only [← hl, List.getElem_append_right (Nat.le_refl _), Nat.sub_self, List.getElem_cons_zero]
      rw [e3]
      exact ⟨hB, hG.of_block (keep _ c fz hc)⟩
  · rw [List.pairwise_append]
    exact ⟨h.inc, List.pairwise_singleton _ _, fun a ha b hb => by rw [List.mem_singleton.1 hb]; exact hlt a ha⟩
theorem new_sliceY (w : World) (a : Option Addr) (m c : Nat) : ∀ j u, [Value.slice a m c][j]? = some u → (w.alloc (.cells #[.slice a m c] 24)).cell? ((⟨w.heap.size, 0, none⟩ : Addr).add j) = some u := by
  intro j u hj
  match j, hj with
  | 0, hj => simp at hj; subst hj; simp [Addr.add]
theorem RowsO.blocks {w : World} {B : Nat} {v : Value} {gs : List Nat} {L : List (List (Int × Int))} (h : RowsO w B v gs L) : ∀ g ∈ gs, g < w.heap.size := by
  intro g hg
  obtain ⟨j, hj, rfl⟩ := List.mem_iff_getElem.1 hg
  exact (h.row j hj (by rw [← h.len]; exact hj)).2.lt
/-- 'append(v, row)' of one row, whose slice lies in a new block. -/
theorem wpList_pushRow {ops : Array Oper} {rest : List Oper} {o : Oper} {a : Act} {Q : Exit → Act → World → Prop} {w : World} (hgd : o.guard = none) (s x : Operand)
    (ho : o.op = .call { callee := .builtin .append, args := #[s, x], argTypes := #[22, 22] })
    (B G m : Nat) (v : Value) (gs : List Nat) (L : List (List (Int × Int))) (r : List (Int × Int)) (hs : a.eval s = v) (h : RowsO w B v gs L) (hB : B ≤ w.heap.size) (hG : RowG w G r) (hBG : B ≤ G) (hlt : ∀ g ∈ gs, g < G) (hr : r.length = m)
    (hx : a.eval x = .slice (some ⟨w.heap.size, 0, none⟩) 1 1) (hb : L.length + 1 ≤ 1099511627776)
    (hk : ∀ v' w', RowsO w' B v' (gs ++ [G]) (L ++ [r]) → (w.alloc (.cells #[.slice (some ⟨G, 0, none⟩) m m] 24)).grownBy w' v.ownBlock → wpList Try.prog ops Q rest (a.put o.dst v') w') :
    wpList Try.prog ops Q (o :: rest) a (w.alloc (.cells #[.slice (some ⟨G, 0, none⟩) m m] 24)) := by
  subst hr
  obtain ⟨ii, hi, hz0, hz1, hz2⟩ := info_parts Try.infoRR
  refine wpList_append_own _ hgd s x 22 ho B 24 ii (.slice none 0 0) 1 24 Try.underlying22 hi hz0 hz1 hz2 rfl (by decide) _ _ _ hs (h.own.alloc _) ⟨w.heap.size, 0, none⟩ 1 1 [.slice (some ⟨G, 0, none⟩) r.length r.length] hx rfl (new_sliceY w _ _ _) ?_ (by unfold maxLen; omega) (by omega) (by simp; omega) ?_
  · intro u hu
    simp at hu
    subst hu
    rfl
  · intro v' w' h1 h2 _
    exact hk v' w' (h.push hG hBG hlt h1 h2) h2
end Go.Proofs.Ytmpjhbbcfnffhaa
