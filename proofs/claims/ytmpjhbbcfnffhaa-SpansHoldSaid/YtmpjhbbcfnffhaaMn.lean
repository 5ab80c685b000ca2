/-
  append onto numbers of the call's own, as laws for the walk; a range over a text beside such numbers.
-/
import Derived.Test.YtmpjhbbcfnffhaaMm
import Derived.Lib.OthersKept
namespace Go.Proofs.Ytmpjhbbcfnffhaa
open Go.RowKit

/-- 'append(v, c)' of one number, which lies in a new block. -/
theorem wpList_pushI {ops : Array Oper} {rest : List Oper} {o : Oper} {a : Act} {Q : Exit → Act → World → Prop} {w : World} (hgd : o.guard = none) (s x : Operand)
    (ho : o.op = .call { callee := .builtin .append, args := #[s, x], argTypes := #[38, 38] })
    (B : Nat) (hB : B ≤ w.heap.size) (v : Value) (l : List Int) (c : Int) (hs : a.eval s = v) (h : OwnI w B v l) (hx : a.eval x = .slice (some ⟨w.heap.size, 0, none⟩) 1 1)
    (hb : l.length + 1 ≤ 17592186044416)
    (hk : ∀ v' w', OwnI w' B v' (l ++ [c]) → Below B w w' → (w.alloc (.cells #[.int .i64 c] 3)).grownBy w' v.ownBlock → wpList Try.prog ops Q rest (a.put o.dst v') w') :
    wpList Try.prog ops Q (o :: rest) a (w.alloc (.cells #[.int .i64 c] 3)) := by
  obtain ⟨ii, hi, hz0, hz1, hz2⟩ := info_parts Try.infoI
  have hown : w.ownsRow B 3 1 v l.length (intsV l) := h
  refine wpList_append_own _ hgd s x 38 ho B 3 ii (.int .i64 0) 1 8 Try.underlying38 hi hz0 hz1 hz2 rfl (by decide) _ _ _ hs (hown.alloc _) ⟨w.heap.size, 0, none⟩ 1 1 [.int .i64 c] hx rfl ?_ ?_ (by unfold maxLen; omega) (by omega) (by simp; omega) ?_
  · intro j u hj
    match j, hj with
    | 0, hj => simp at hj; subst hj; simp [Addr.add]
  · intro u hu
    simp at hu
    subst hu
    rfl
  · intro v' w' h1 h2 _
    obtain ⟨h3, h4⟩ := ownI_push hB h (Below.refl B w) h1 h2
    exact hk v' w' h3 h4 h2

/-- 'append(v, r...)' of numbers that lie elsewhere. -/
theorem wpList_appI {ops : Array Oper} {rest : List Oper} {o : Oper} {a : Act} {Q : Exit → Act → World → Prop} {w : World} (hgd : o.guard = none) (s x : Operand)
    (ho : o.op = .call { callee := .builtin .append, args := #[s, x], argTypes := #[38, 38] })
    (B : Nat) (hB : B ≤ w.heap.size) (v : Value) (l r : List Int) (hs : a.eval s = v) (h : OwnI w B v l) (ad : Addr) (c : Nat) (hx : a.eval x = .slice (some ad) r.length c)
    (hr : IntS w (.slice (some ad) r.length c) r) (hb : l.length + r.length ≤ 17592186044416)
    (hk : ∀ v' w', OwnI w' B v' (l ++ r) → Below B w w' → wpList Try.prog ops Q rest (a.put o.dst v') w') :
    wpList Try.prog ops Q (o :: rest) a w := by
  obtain ⟨ii, hi, hz0, hz1, hz2⟩ := info_parts Try.infoI
  have hown : w.ownsRow B 3 1 v l.length (intsV l) := h
  refine wpList_append_own _ hgd s x 38 ho B 3 ii (.int .i64 0) 1 8 Try.underlying38 hi hz0 hz1 hz2 rfl (by decide) _ _ _ hs hown ad r.length c (intsV r) hx (by rw [intsV_length, Nat.mul_one]) ?_ ?_ (by unfold maxLen; omega) (by omega) hB ?_
  · intro j u hj
    have hjr : j < r.length := by
      have := (List.getElem?_eq_some_iff.1 hj).1
      simpa [intsV] using this
    obtain ⟨a', cap', hv, _, _, hc⟩ := hr
    obtain ⟨g, o', ha, _, hcl⟩ := hc (by omega)
    simp only [Value.slice.injEq] at hv
    obtain ⟨hv1, _, _⟩ := hv
    rw [← hv1] at ha
    obtain rfl := Option.some.inj ha
    rw [Addr.add_lit, hcl j hjr]
    simp [intsV, hjr] at hj
    rw [← hj]
  · intro u hu
    obtain ⟨x, _, rfl⟩ := List.mem_map.1 hu
    rfl
  · intro v' w' h1 h2 _
    obtain ⟨h3, h4⟩ := ownI_pushAll hB h (Below.refl B w) h1 h2
    exact hk v' w' h3 h4

theorem OwnI.of_heap {w w' : World} {B : Nat} {v : Value} {l : List Int} (h : OwnI w B v l) (e : ∀ k, v.ownBlock = some k → k < w.heap.size → w'.heap[k]? = w.heap[k]?) : OwnI w' B v l := by
  have hown : w.ownsRow B 3 1 v l.length (intsV l) := h
  refine ⟨h.1, ?_⟩
  rcases h.2 with ⟨h1, h2⟩ | ⟨g, cap, cur, h1, hg, hh, hnc, hcp, hcs, htake⟩
  · exact .inl ⟨h1, h2⟩
  · have hlt : g < w.heap.size := (hown.lt g (by rw [h1]; rfl)).2
    exact .inr ⟨g, cap, cur, h1, hg, (e g (by rw [h1]; rfl) hlt).trans hh, hnc, hcp, hcs, htake⟩
/-- The row of numbers is not the iterator. -/
theorem OwnI.ne_iter {w : World} {B : Nat} {v : Value} {l : List Int} {K : Nat} {s : ByteArray} {pos : Nat} (h : OwnI w B v l) (hk : w.heap[K]? = some (.stringIter s pos)) : ∀ k, v.ownBlock = some k → k ≠ K := by
  intro k hv e
  subst e
  rcases h.2 with ⟨h1, _⟩ | ⟨g, cap, cur, h1, hg, hh, _⟩
  · rw [h1] at hv; cases hv
  · rw [h1] at hv
    obtain rfl : g = k := by simpa [Value.ownBlock] using hv
    rw [hk] at hh
    cases hh
theorem OwnI.iterAt {w : World} {B : Nat} {v : Value} {l : List Int} {K : Nat} {s : ByteArray} {pos : Nat} (h : OwnI w B v l) (hk : w.heap[K]? = some (.stringIter s pos)) (pos' : Nat) : OwnI (w.iterAt K s pos') B v l :=
  h.of_heap fun k hv _ => by
    have hne := h.ne_iter hk k hv
    simp only [World.iterAt]
    rw [Array.getElem?_setIfInBounds_ne (Ne.symm hne)]
theorem below_iterAt {B : Nat} {w0 w : World} {K : Nat} {s : ByteArray} (h : Below B w0 w) (hK : B ≤ K) (pos' : Nat) : Below B w0 (w.iterAt K s pos') :=
  h.trans ⟨rfl, rfl, rfl, by simp [World.iterAt], fun k hk => by simp only [World.iterAt]; rw [Array.getElem?_setIfInBounds_ne (by omega)]⟩
end Go.Proofs.Ytmpjhbbcfnffhaa
