/-
  A slice of bytes of the call's own whose row may bear a mark of which no cell is meant (what '[]byte(s)' lays), and what append does with it.
-/
import Derived.Test.YtokdjaljeckghaaBpGet
import Derived.Laws.IdiomStrings
namespace Go.Proofs.Ytokdjaljeckghaa
open Go.RowKit

/-- Of the row no cell is frozen. -/
def Loose (n : Nat) (fz : Nat × Nat) : Prop := ∀ j, j < n → fz.1 ≤ j → fz.2 ≤ j
/-- The slice v is the call's own, from block B on, and holds these bytes; its row may be marked behind its end. -/
def OwnM (w : World) (B : Nat) (v : Value) (l : List UInt8) : Prop :=
  ∃ g cap cur fz, v = .slice (some ⟨g, 0, none⟩) l.length cap ∧ B ≤ g ∧ w.heap[g]? = some (.cells cur 5 fz) ∧ Loose cur.size fz ∧ l.length ≤ cap ∧ cap ≤ maxLen ∧ cur.size = cap ∧ cur.toList.take l.length = bytesV l
def OwnMPost (B : Nat) (w0 : World) (l : List UInt8) (e : Ending) (w' : World) : Prop := ∃ v', e = .returned v' ∧ OwnM w' B v' l ∧ Below B w0 w'
theorem OwnM.lt {w : World} {B : Nat} {v : Value} {l : List UInt8} (h : OwnM w B v l) : ∀ k, v.ownBlock = some k → B ≤ k ∧ k < w.heap.size := by
  obtain ⟨g, cap, cur, fz, rfl, hB, hg, _⟩ := h
  intro k hk
  obtain rfl : g = k := by simpa [Value.ownBlock] using hk
  exact ⟨hB, (Array.getElem?_eq_some_iff.1 hg).1⟩
theorem OwnM.cells {w : World} {B : Nat} {v : Value} {l : List UInt8} (h : OwnM w B v l) : ∃ g cap, v = .slice (some ⟨g, 0, none⟩) l.length cap ∧ ∀ j u, (bytesV l)[j]? = some u → w.cell? ((⟨g, 0, none⟩ : Addr).add j) = some u := by
  obtain ⟨g, cap, cur, fz, rfl, hB, hg, _, _, _, _, ht⟩ := h
  refine ⟨g, cap, rfl, fun j u hj => ?_⟩
  rw [Addr.add_lit, Nat.zero_add, cell_of_row w g j cur _ fz hg, ← Array.getElem?_toList]
  rw [← ht, List.getElem?_take] at hj
  split at hj
  · exact hj
  · cases hj
theorem OwnM.of_heap {w w' : World} {B : Nat} {v : Value} {l : List UInt8} (h : OwnM w B v l) (e : ∀ k, v.ownBlock = some k → k < w.heap.size → w'.heap[k]? = w.heap[k]?) : OwnM w' B v l := by
  obtain ⟨g, cap, cur, fz, rfl, hB, hg, hr⟩ := h
  exact ⟨g, cap, cur, fz, rfl, hB, (e g rfl (Array.getElem?_eq_some_iff.1 hg).1).trans hg, hr⟩
theorem OwnM.keep {w w' : World} {B B' : Nat} {v : Value} {l : List UInt8} (h : OwnM w B v l) (hb : Below B' w w') (hB : w.heap.size ≤ B') : OwnM w' B v l :=
  h.of_heap fun k _ hk => hb.block k (Nat.lt_of_lt_of_le hk hB)
theorem OwnM.alloc {w : World} {B : Nat} {v : Value} {l : List UInt8} (h : OwnM w B v l) (o : Obj) : OwnM (w.alloc o) B v l :=
  h.of_heap fun _ _ hk => heap_alloc_old w o hk
/-- 'string(b)'. -/
theorem ownM_conv {w : World} {B : Nat} {v : Value} {l : List UInt8} (h : OwnM w B v l) :
    (convert 54 9 v).run Try.prog w = .ok (.string ⟨l.toArray⟩) w := by
  obtain ⟨g, cap, rfl, hc⟩ := h.cells
  refine run_convert_bytes_back (P := Try.prog) w 54 9 5 ⟨g, 0, none⟩ cap l Try.underlying54 Try.underlying5 Try.underlying9 fun j hj => hc j _ ?_
  simp [bytesV, hj]
/-- '[]byte(s)'. -/
theorem ownM_conv_of (w : World) (s : ByteArray) (B : Nat) (hB : B ≤ w.heap.size) (hs : s.size ≤ maxLen) :
    ∃ v w', (convert 9 54 (.string s)).run Try.prog w = .ok v w' ∧ OwnM w' B v s.data.toList ∧ Below B w w' := by
  have hcv := run_bytes_of_string (P := Try.prog) w 9 54 5 s Try.underlying9 Try.underlying54 Try.underlying5
  have hl : s.data.toList.length = s.size := by simp
  have hge := grownCap_ge w s.size 0 5
  have hle := grownCap_le_maxLen w s.size 0 5 hs
  generalize grownCap w s.size 0 5 = cap at *
  have hz : (bytesRow s cap).size = cap := by
    have : s.data.size = s.size := rfl
    simp [bytesRow]
    omega
  refine ⟨_, _, hcv, ⟨w.heap.size, cap, bytesRow s cap, ((bytesRow s cap).size, (bytesRow s cap).size + 1), by rw [hl], hB, ?_, ?_, by omega, hle, hz, ?_⟩, ((Below.refl _ _).drew).alloc hB _⟩
  · exact heap_alloc_new w.drew _
  · intro j hj h
    simp only at h
    omega
  · unfold bytesRow bytesV
    rw [hl, Array.toList_append, List.take_left' (by simp)]
    simp
section
variable {P : Program}
/-- Cells stored one by one into a row of which none is frozen. -/
theorem stored_loose (g : Nat) (t : TypeId) (fz : Nat × Nat) (vs : List Value) : ∀ (o i : Nat) (cur : Array Value) (w : World), w.heap[g]? = some (.cells cur t fz) → Loose cur.size fz → o + i + vs.length ≤ cur.size → (∀ v ∈ vs, v.oneCell' = true) →
    (storeCells ⟨g, o, none⟩ vs i).run P w = .ok () (w.setRow g (cur.toList.take (o + i) ++ vs ++ cur.toList.drop (o + i + vs.length)).toArray) := by
  induction vs with
  | nil =>
    intro o i cur w hg _ _ _
    have e : (cur.toList.take (o + i) ++ [] ++ cur.toList.drop (o + i + ([] : List Value).length)).toArray = cur := by simp
    rw [e, setRow_self w g cur t fz hg]
    rfl
  | cons v rest ih =>
    intro o i cur w hg hfz hl h1
    have hlen : o + i + rest.length + 1 ≤ cur.size := by rw [List.length_cons] at hl; omega
    have hlt : o + i < cur.size := by omega
    have hc : w.cell? ⟨g, o + i, none⟩ = some cur[o + i] := by rw [cell_of_row w g (o + i) cur t fz hg, Array.getElem?_eq_getElem hlt]
    have hf : w.frozen? ⟨g, o + i, none⟩ = false := by
      have h := hfz (o + i) hlt
      obtain ⟨lo, hi⟩ := fz
      simp only [World.frozen?, hg, Bool.and_eq_false_iff, decide_eq_false_iff_not]
      simp only at h
      omega
    have hs : (store ((⟨g, o, none⟩ : Addr).add i) v).run P w = .ok () (w.setRow g (cur.setIfInBounds (o + i) v)) := by
      rw [Addr.add_lit, run_store P w _ v _ (h1 v (List.mem_cons_self ..)), hc]
      simp [hf, setCell_eq_setRow w g (o + i) cur t fz v hg]
    have hnext := ih o (i + 1) (cur.setIfInBounds (o + i) v) (w.setRow g (cur.setIfInBounds (o + i) v)) (setRow_heap w g cur _ t _ hg) (by rw [Array.size_setIfInBounds]; exact hfz) (by rw [Array.size_setIfInBounds]; omega) (fun x hx => h1 x (List.mem_cons_of_mem _ hx))
    have hseg := list_seg_step cur.toList (o + i) v rest (by rw [Array.length_toList]; omega)
    simp only [storeCells, Sem.run_bind, hs, Result.andThen_ok, hnext, setRow_setRow]
    congr 3
    simpa [Array.toList_setIfInBounds, Nat.add_assoc] using hseg
end

/-- append, of bytes that lie anywhere. -/
theorem ownM_append (w : World) (B : Nat) (hB : B ≤ w.heap.size) (v : Value) (l r : List UInt8) (h : OwnM w B v l) (ad : Addr) (c : Nat)
    (hnews : ∀ j u, (bytesV r)[j]? = some u → w.cell? (ad.add j) = some u) (hb : l.length + r.length ≤ 140737488355328) :
    ∃ v' w', (Builtin.append_ #[54, 54] 54 #[v, .slice (some ad) r.length c]).run Try.prog w = .ok v' w' ∧ OwnM w' B v' (l ++ r) ∧ w.grownBy w' v.ownBlock := by
  obtain ⟨i0, hi, hz0, hz1, hz2⟩ := info_parts Try.infoB
  have hcl := h.cells
  obtain ⟨g, cap, cur, fz, rfl, hBg, hg, hfz, hlc, hcm, hcs, htk⟩ := h
  have hml : l.length + r.length ≤ maxLen := by unfold maxLen; omega
  have hln : (bytesV r).length = r.length * i0.size := by rw [bytesV_length, hz1, Nat.mul_one]
  have hap : bytesV l ++ bytesV r = bytesV (l ++ r) := by simp [bytesV]
  have h1 : ∀ u ∈ bytesV r, u.oneCell' = true := by
    intro u hu
    obtain ⟨x, _, rfl⟩ := List.mem_map.1 hu
    rfl
  have hll : (l ++ r).length = l.length + r.length := List.length_append
  by_cases hroom : l.length + r.length ≤ cap
  · have hf := run_firstCells_some (P := Try.prog) w i0.size r.length ad r.length c (bytesV r) hln hnews
    have hst := stored_loose (P := Try.prog) g 5 fz (bytesV r) l.length 0 cur w hg hfz (by rw [bytesV_length]; omega) h1
    simp only [Nat.add_zero, bytesV_length] at hst
    have hrun : (Builtin.append_ #[54, 54] 54 #[.slice (some ⟨g, 0, none⟩) l.length cap, .slice (some ad) r.length c]).run Try.prog w =
        .ok (.slice (some ⟨g, 0, none⟩) (l.length + r.length) cap) (w.setRow g (cur.toList.take l.length ++ bytesV r ++ cur.toList.drop (l.length + r.length)).toArray) := by
      rw [hz1] at hf
      simp [Builtin.append_, run_underlying Try.underlying54, sizeOf, typeInfo, hi, hz1, Builtin.lenOf, hroom, hf, Addr.add_lit, hst]
    refine ⟨_, _, hrun, ⟨g, cap, _, fz, by rw [hll], hBg, setRow_heap w g cur _ _ fz hg, ?_, by omega, hcm, ?_, ?_⟩, ⟨rfl, rfl, rfl, by simp, fun k _ hk => setRow_other w g k _ (fun e => hk (by simp [Value.ownBlock, e]))⟩⟩
    · intro j hj
      refine hfz j ?_
      simp only [List.size_toArray, List.length_append, List.length_take, List.length_drop, Array.length_toList, bytesV_length] at hj
      omega
    · simp only [List.size_toArray, List.length_append, List.length_take, List.length_drop, Array.length_toList, bytesV_length]
      omega
    · rw [htk, hap, hll]
      show ((bytesV (l ++ r)) ++ _).take _ = _
      exact List.take_left' (by rw [bytesV_length, hll])
  · obtain ⟨g', cap', hv, hcl⟩ := hcl
    obtain ⟨rfl, rfl⟩ : g = g' ∧ cap = cap' := by simpa using hv
    have hr := run_append_grow (P := Try.prog) w 54 54 5 i0 (.int .u8 0) Try.underlying54 hi hz0 ⟨g, 0, none⟩ l.length cap (bytesV l) (by rw [bytesV_length, hz1, Nat.mul_one]) hcl ad r.length c (bytesV r) hln hnews (by omega) (by omega) (growslice_fits (by omega) (by rw [hz2]; omega))
    have hge := grownCap_ge w (l.length + r.length) cap 5
    have hle := grownCap_le_maxLen w (l.length + r.length) cap 5 hml
    refine ⟨_, _, hr, ⟨w.heap.size, _, _, (0, 0), by rw [hll], hB, heap_alloc_new w.drew _, ?_, by omega, hle, ?_, ?_⟩, ⟨rfl, rfl, rfl, by simp, fun k hk _ => heap_alloc_old w.drew _ hk⟩⟩
    · intro j _ _
      exact Nat.zero_le _
    · have : (Value.int IntKind.u8 0).cells.size = 1 := rfl
      simp only [Array.size_append, List.size_toArray, size_zeroCells, this, bytesV_length]
      omega
    · rw [Array.toList_append, Array.toList_append, hll]
      show ((bytesV l ++ bytesV r) ++ _).take _ = _
      rw [hap]
      exact List.take_left' (by rw [bytesV_length, hll])
/-- Behind it. -/
theorem ownM_below {w0 w w' : World} {B : Nat} {v : Value} {l : List UInt8} (hB : B ≤ w.heap.size) (h : OwnM w B v l) (hb : Below B w0 w) (hg : w.grownBy w' v.ownBlock) : Below B w0 w' :=
  hb.grown hg hB (fun j hj => (h.lt j hj).1)
/-- The operation, for the walk. -/
theorem wpList_ownM {ops : Array Oper} {rest : List Oper} {o : Oper} {a : Act} {Q : Exit → Act → World → Prop} {w : World} (hgd : o.guard = none) (s x : Operand)
    (ho : o.op = .call { callee := .builtin .append, args := #[s, x], argTypes := #[54, 54] }) (hty : o.type = 54)
    (B : Nat) (hB : B ≤ w.heap.size) (v : Value) (l r : List UInt8) (hs : a.eval s = v) (h : OwnM w B v l) (ad : Addr) (m c : Nat) (hx : a.eval x = .slice (some ad) m c) (hm : r.length = m)
    (hnews : ∀ j u, (bytesV r)[j]? = some u → w.cell? (ad.add j) = some u) (hb : l.length + r.length ≤ 140737488355328)
    (hk : ∀ v' w', OwnM w' B v' (l ++ r) → w.grownBy w' v.ownBlock → wpList Try.prog ops Q rest (a.put o.dst v') w') : wpList Try.prog ops Q (o :: rest) a w := by
  refine wpList_plain hgd fun K hK => ?_
  subst hm
  obtain ⟨v', w', hr, h2, h3⟩ := ownM_append w B hB v l r h ad c hnews hb
  unfold Oper.wp execOp
  simp only [ho, hty, resolve, invoke, builtin, Sem.run_bind, Sem.run_pure, Result.andThen_ok, List.map_toArray, List.map_cons, List.map_nil, hs, hx, hr]
  exact hK _ _ (hk v' w' h2 h3)
end Go.Proofs.Ytokdjaljeckghaa
