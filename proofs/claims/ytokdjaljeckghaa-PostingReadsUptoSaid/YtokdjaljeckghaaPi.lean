/-
  Numbers appended, a call, at a step of a walk; the three lists of postings, as the program makes them.
-/
import Derived.Test.YtokdjaljeckghaaPh
namespace Go.Proofs.Ytokdjaljeckghaa
open Go.RowKit
/-- Only the list's own block has turned; the list lies there still, or in a new block. -/
def Moved (w w' : World) (v v' : Value) : Prop := (∀ k, k < w.heap.size → v.ownBlock ≠ some k → w'.heap[k]? = w.heap[k]?) ∧ ∀ g, v'.ownBlock = some g → v.ownBlock = some g ∨ w.heap.size ≤ g
theorem run_appendM {F : Nat → Prop} (w : World) (B : Nat) (hB : B ≤ w.heap.size) (v x : Value) (l r : List Int) (h : OwnI w B v l) (hx : IntF F w x r) (hb : l.length + r.length ≤ 17179869184) :
    ∃ v' w', (Builtin.append_ #[38, 38] 38 #[v, x]).run Try.prog w = .ok v' w' ∧ OwnI w' B v' (l ++ r) ∧ Below B w w' ∧ Moved w w' v v' := by
  obtain ⟨ii, hi, hz0, hz1, hz2⟩ := info_parts Try.infoI
  obtain ⟨ax, cx, rfl, x1, x2, x3⟩ := hx
  have hown : w.ownsRow B 3 1 v l.length (intsV l) := h
  cases ax with
  | none =>
    have h0 : r = [] := by
      rcases Nat.eq_zero_or_pos r.length with h0 | h0
      · exact List.length_eq_zero_iff.1 h0
      · obtain ⟨g, o, q, _⟩ := x3 h0
        cases q
    subst h0
    refine ⟨v, w, ?_, by rw [List.append_nil]; exact h, Below.refl _ _, fun _ _ _ => rfl, fun g hg => .inl hg⟩
    rcases hown.2 with ⟨rfl, e0⟩ | ⟨g, cap, cur, rfl, _, _, hnc, _⟩
    · simp [Builtin.append_, run_underlying Try.underlying38, sizeOf, typeInfo, hi, Builtin.lenOf, Builtin.firstCells]
    · simp [Builtin.append_, run_underlying Try.underlying38, sizeOf, typeInfo, hi, Builtin.lenOf, Builtin.firstCells, hnc, storeCells]
  | some ad =>
    have hnews : ∀ j u, (intsV r)[j]? = some u → w.cell? (ad.add j) = some u := by
      intro j u hu
      have hj : j < r.length := by
        have := (List.getElem?_eq_some_iff.1 hu).1
        rwa [intsV_length] at this
      obtain ⟨g, o, q, _, _, x4⟩ := x3 (by omega)
      cases q
      rw [Addr.add_lit, x4 j hj]
      simp [intsV, hj] at hu
      rw [hu]
    obtain ⟨v', w', hr, h2, h3, _, h5⟩ := run_append_own_at (P := Try.prog) w B 38 38 3 ii (.int .i64 0) 1 8 Try.underlying38 hi hz0 hz1 hz2 rfl (by decide) v l.length (intsV l) hown ad r.length cx (intsV r) (by rw [intsV_length, Nat.mul_one]) hnews (intsV_one r) (by unfold maxLen; omega) (by omega) hB
    refine ⟨v', w', hr, ?_, ?_, ?_, ?_⟩
    · unfold OwnI
      rw [intsV_append] at h2
      simpa using h2
    · exact (Below.refl B w).grown h3 hB (fun j hj => (hown.lt j hj).1)
    · exact fun k hk hv => h3.block k hk (fun e => hv e.symm)
    · intro g hg
      rcases h5 with h5 | h5
      · exact .inl (h5 ▸ hg)
      · rw [h5] at hg
        cases hg
        exact .inr (Nat.le_refl _)
section
variable {ops : Array Oper} {rest : List Oper} {o : Oper} {a : Act}
theorem wp_appendM {K : Act → World → Prop} {Q : Exit → Act → World → Prop} {F : Nat → Prop} (w : World) (s x : Operand) (ty : o.type = 38)
    (ho : o.op = .call { callee := .builtin .append, args := #[s, x], argTypes := #[38, 38] }) (B : Nat) (hB : B ≤ w.heap.size) (v u : Value) (l r : List Int) (hs : a.eval s = v) (hx : a.eval x = u) (h : OwnI w B v l) (hr : IntF F w u r) (hb : l.length + r.length ≤ 17179869184)
    (hk : ∀ v' w', OwnI w' B v' (l ++ r) → Below B w w' → Moved w w' v v' → K (a.put o.dst v') w') : o.wp Try.prog a w K Q := by
  obtain ⟨v', w', h1, h2, h3, h4⟩ := run_appendM w B hB v u l r h hr hb
  unfold Oper.wp execOp
  simp only [ho, resolve, invoke, builtin, Sem.run_bind, Sem.run_pure, Result.andThen_ok, List.map_toArray, List.map_cons, List.map_nil, hs, hx, ty, h1]
  exact hk v' w' h2 h3 h4
theorem wpList_appendM {Q : Exit → Act → World → Prop} {F : Nat → Prop} {w : World} (hgd : o.guard = none) (s x : Operand) (ty : o.type = 38)
    (ho : o.op = .call { callee := .builtin .append, args := #[s, x], argTypes := #[38, 38] }) (B : Nat) (hB : B ≤ w.heap.size) (v u : Value) (l r : List Int) (hs : a.eval s = v) (hx : a.eval x = u) (h : OwnI w B v l) (hr : IntF F w u r) (hb : l.length + r.length ≤ 17179869184)
    (hk : ∀ v' w', OwnI w' B v' (l ++ r) → Below B w w' → Moved w w' v v' → wpList Try.prog ops Q rest (a.put o.dst v') w') : wpList Try.prog ops Q (o :: rest) a w :=
  wpList_plain hgd fun _ hK => wp_appendM w s x ty ho B hB v u l r hs hx h hr hb fun v' w' h2 h3 h4 => hK _ _ (hk v' w' h2 h3 h4)
theorem step_appendM {K : Act → World → Prop} {Q : Exit → Act → World → Prop} {E : Prop} {F : Nat → Prop} (w : World) (hgd : o.guard = none) (s x : Operand) (ty : o.type = 38)
    (ho : o.op = .call { callee := .builtin .append, args := #[s, x], argTypes := #[38, 38] }) (B : Nat) (hB : B ≤ w.heap.size) (v u : Value) (l r : List Int) (hs : a.eval s = v) (hx : a.eval x = u) (h : OwnI w B v l) (hr : IntF F w u r) (hb : l.length + r.length ≤ 17179869184)
    (hk : ∀ v' w', OwnI w' B v' (l ++ r) → Below B w w' → Moved w w' v v' → K (a.put o.dst v') w') :
    if Region.wanted o (yielded ops a.tmps) = true then Oper.wp Try.prog o a w K Q else E := by
  have hw : Region.wanted o (yielded ops a.tmps) = true := by simp [Region.wanted, hgd]
  rw [if_pos hw]
  exact wp_appendM w s x ty ho B hB v u l r hs hx h hr hb hk
/-- A call of a function that the source names, at a step of a region that draws its order. -/
theorem step_call {K : Act → World → Prop} {Q : Exit → Act → World → Prop} {E : Prop} {R : Value → World → Prop} (w : World) (hgd : o.guard = none) (f : FuncId) (xs : List Operand) (ats : Array TypeId) (args : List Value)
    (ho : o.op = .call { callee := .value (.func f), args := xs.toArray, argTypes := ats }) (hargs : xs.map a.eval = args) (hen : ∀ args w, (callFunc f args).run Try.prog w = .ok (.enter f args) w)
    (h : Calls Try.prog f args.toArray w fun e w' => ∃ v, e = .returned v ∧ R v w') (hk : ∀ v w', R v w' → K (a.put o.dst v) w') :
    if Region.wanted o (yielded ops a.tmps) = true then Oper.wp Try.prog o a w K Q else E := by
  have hw : Region.wanted o (yielded ops a.tmps) = true := by simp [Region.wanted, hgd]
  rw [if_pos hw]
  obtain ⟨dst, op, ty, pos, af, gd⟩ := o
  obtain rfl : op = _ := ho
  obtain rfl : gd = none := hgd
  unfold Oper.wp
  rw [execOp_call_go, List.map_toArray, hargs, show #[] ++ args.toArray ++ #[] = args.toArray by simp, hen]
  refine Calls.mono h ?_
  rintro e w' ⟨v, rfl, hR⟩
  exact hk v w' hR
end
/-! ### three lists that grow beside each other, in a box -/
structure Tri (w : World) (B b : Nat) (va vb vc : Value) (A M C : List Int) : Prop where
  box : w.heap[b]? = some (.cells #[va, vb, vc] 58 (0, 0))
  oa : OwnI w B va A
  ob : OwnI w B vb M
  oc : OwnI w B vc C
  ab : ∀ g, va.ownBlock = some g → vb.ownBlock ≠ some g
  ac : ∀ g, va.ownBlock = some g → vc.ownBlock ≠ some g
  bc : ∀ g, vb.ownBlock = some g → vc.ownBlock ≠ some g
theorem OwnI.far {w : World} {B b : Nat} {v : Value} {l : List Int} {cs : Array Value} {t : TypeId} {fz : Nat × Nat} (h : OwnI w B v l) (hb : w.heap[b]? = some (.cells cs t fz)) (ht : 3 ≠ t) : v.ownBlock ≠ some b := fun e => by
  obtain ⟨_, _, c, k⟩ := ownsRow_kind h b e
  exact kinds_ne k hb ht rfl
theorem Tri.keep {w w' : World} {B b : Nat} {va vb vc : Value} {A M C : List Int} (h : Tri w B b va vb vc A M C) (e : ∀ k, k < w.heap.size → w'.heap[k]? = w.heap[k]?) : Tri w' B b va vb vc A M C := by
  have hb : b < w.heap.size := (Array.getElem?_eq_some_iff.1 h.box).1
  exact ⟨(e b hb).trans h.box, h.oa.keepB fun k hk => e k (World.ownsRow.lt h.oa k hk).2, h.ob.keepB fun k hk => e k (World.ownsRow.lt h.ob k hk).2, h.oc.keepB fun k hk => e k (World.ownsRow.lt h.oc k hk).2, h.ab, h.ac, h.bc⟩
theorem Tri.alloc {w : World} {B b : Nat} {va vb vc : Value} {A M C : List Int} (h : Tri w B b va vb vc A M C) (o : Obj) : Tri (w.alloc o) B b va vb vc A M C := h.keep fun _ hk => Go.Deep.blk_alloc_lt _ _ _ hk
theorem Tri.lt {w : World} {B b : Nat} {va vb vc : Value} {A M C : List Int} (h : Tri w B b va vb vc A M C) : b < w.heap.size := (Array.getElem?_eq_some_iff.1 h.box).1
theorem Tri.cells {w : World} {B b : Nat} {va vb vc : Value} {A M C : List Int} (h : Tri w B b va vb vc A M C) : w.cell? ⟨b, 0, none⟩ = some va ∧ w.cell? ⟨b, 1, none⟩ = some vb ∧ w.cell? ⟨b, 2, none⟩ = some vc ∧ ∀ j, w.frozen? ⟨b, j, none⟩ = false := by
  refine ⟨by simp [World.cell?, h.box], by simp [World.cell?, h.box], by simp [World.cell?, h.box], fun j => by simp [World.frozen?, h.box]⟩
/-- What another list's append leaves of a list. -/
theorem OwnI.beside {w w' : World} {B : Nat} {u v v' : Value} {l : List Int} (h : OwnI w B u l) (hm : Moved w w' v v') (hne : ∀ g, u.ownBlock = some g → v.ownBlock ≠ some g) : OwnI w' B u l ∧ ∀ g, v'.ownBlock = some g → u.ownBlock ≠ some g := by
  refine ⟨h.keepB fun k hk => hm.1 k (World.ownsRow.lt h k hk).2 (hne k hk), fun g hg hu => ?_⟩
  rcases hm.2 g hg with q | q
  · exact hne g hu q
  · exact absurd (World.ownsRow.lt h g hu).2 (Nat.not_lt.2 q)
/-- A list stored into the box. -/
theorem OwnI.boxed {w : World} {B b j : Nat} {u x : Value} {l : List Int} {cs : Array Value} (h : OwnI w B u l) (hb : w.heap[b]? = some (.cells cs 58 (0, 0))) : OwnI (w.setCell ⟨b, j, none⟩ x) B u l :=
  h.keepB fun k hk => heap_other _ _ _ _ _ fun e => h.far hb (by decide) (e ▸ hk)
theorem Tri.seta {w w' : World} {B b : Nat} {va vb vc v' : Value} {A M C A' : List Int} (h : Tri w B b va vb vc A M C) (ho : OwnI w' B v' A') (hm : Moved w w' va v') : Tri (w'.setCell ⟨b, 0, none⟩ v') B b v' vb vc A' M C := by
  have hb : w'.heap[b]? = some (.cells #[va, vb, vc] 58 (0, 0)) := (hm.1 b h.lt (h.oa.far h.box (by decide))).trans h.box
  obtain ⟨p1, p2⟩ := h.ob.beside hm fun g hg q => h.ab g q hg
  obtain ⟨q1, q2⟩ := h.oc.beside hm fun g hg q => h.ac g q hg
  exact ⟨heap_set _ _ _ _ _ _ _ hb, ho.boxed hb, p1.boxed hb, q1.boxed hb, p2, q2, h.bc⟩
theorem Tri.setb {w w' : World} {B b : Nat} {va vb vc v' : Value} {A M C A' : List Int} (h : Tri w B b va vb vc A M C) (ho : OwnI w' B v' A') (hm : Moved w w' vb v') : Tri (w'.setCell ⟨b, 1, none⟩ v') B b va v' vc A A' C := by
  have hb : w'.heap[b]? = some (.cells #[va, vb, vc] 58 (0, 0)) := (hm.1 b h.lt (h.ob.far h.box (by decide))).trans h.box
  obtain ⟨p1, p2⟩ := h.oa.beside hm fun g hg q => h.ab g hg q
  obtain ⟨q1, q2⟩ := h.oc.beside hm fun g hg q => h.bc g q hg
  exact ⟨heap_set _ _ _ _ _ _ _ hb, p1.boxed hb, ho.boxed hb, q1.boxed hb, fun g hg q => p2 g q hg, h.ac, q2⟩
theorem Tri.setc {w w' : World} {B b : Nat} {va vb vc v' : Value} {A M C A' : List Int} (h : Tri w B b va vb vc A M C) (ho : OwnI w' B v' A') (hm : Moved w w' vc v') : Tri (w'.setCell ⟨b, 2, none⟩ v') B b va vb v' A M A' := by
  have hb : w'.heap[b]? = some (.cells #[va, vb, vc] 58 (0, 0)) := (hm.1 b h.lt (h.oc.far h.box (by decide))).trans h.box
  obtain ⟨p1, p2⟩ := h.oa.beside hm fun g hg q => h.ac g hg q
  obtain ⟨q1, q2⟩ := h.ob.beside hm fun g hg q => h.bc g hg q
  exact ⟨heap_set _ _ _ _ _ _ _ hb, p1.boxed hb, q1.boxed hb, ho.boxed hb, h.ab, fun g hg q => p2 g q hg, fun g hg q => q2 g q hg⟩
theorem OwnI.alloc {w : World} {B : Nat} {v : Value} {l : List Int} (h : OwnI w B v l) (o : Obj) : OwnI (w.alloc o) B v l := h.keepB fun k hk => Go.Deep.blk_alloc_lt _ _ _ (World.ownsRow.lt h k hk).2
theorem Moved.pre {w : World} {o : Obj} {w' : World} {v v' : Value} (h : Moved (w.alloc o) w' v v') : Moved w w' v v' :=
  ⟨fun k hk hv => (h.1 k (by simp; omega) hv).trans (Go.Deep.blk_alloc_lt _ _ _ hk), fun g hg => (h.2 g hg).imp id fun q => Nat.le_trans (by simp) q⟩
/-- A number in a block of its own. -/
theorem one_int (w : World) (x : Int) : IntF (fun _ => True) (w.alloc (.cells #[.int .i64 x] 3)) (.slice (some ⟨w.heap.size, 0, none⟩) 1 1) [x] :=
  (ints_lit w [x] (by simp)).intF
end Go.Proofs.Ytokdjaljeckghaa
