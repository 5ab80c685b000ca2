/-
  Lists of texts that share no memory: the lists while they are grown.
-/
import Derived.Test.YtdohenbicepicaaAp
import Derived.Maps.AppendAt
import Derived.ArgAppend
namespace Go.Proofs.Ytdohenbicepicaa
open Go.RowKit Go.Maps

section
variable {P : Program} (w : World)
/-- append onto an own row: in place, and nothing else turns; or into a new block, and nothing old turns at all. -/
theorem run_append_two (base : Nat) (t ty e : TypeId) (i : TypeInfo) (z : Value) (size bytes : Nat) (ht : P.underlying t = some (.slice e)) (hi : P.info? e = some i) (hz : i.zero = some z)
    (hsize : i.size = size) (hby : i.bytes = bytes) (hzs : z.cells.size = size) (hsz : 0 < size)
    (v : Value) (n : Nat) (xs : List Value) (hown : w.ownsRow base e size v n xs)
    (a : Addr) (m c : Nat) (news : List Value) (hl : news.length = m * size) (hnews : ∀ j u, news[j]? = some u → w.cell? (a.add j) = some u) (h1 : ∀ u ∈ news, u.oneCell' = true)
    (h63 : n + m ≤ maxLen) (hbytes : (n + m) * bytes ≤ 140737488355328) (hbase : base ≤ w.heap.size) :
    ∃ v' w', (Builtin.append_ #[t, t] ty #[v, .slice (some a) m c]).run P w = .ok v' w' ∧ w'.ownsRow base e size v' (n + m) (xs ++ news) ∧
      ((v'.ownBlock = v.ownBlock ∧ w.grownBy w' v.ownBlock) ∨ ((∀ b, v'.ownBlock = some b → w.heap.size ≤ b) ∧ w.grownBy w' none)) := by
  obtain ⟨v', w', hr, h2, h3, _, h5⟩ := run_append_own_at (P := P) w base t ty e i z size bytes ht hi hz hsize hby hzs hsz v n xs hown a m c news hl hnews h1 h63 hbytes hbase
  rcases hown.2 with ⟨rfl, rfl⟩ | ⟨g, cap, cur, rfl, hbg, hg, hnc, hcm, hcs, htake⟩
  · refine ⟨v', w', hr, h2, .inr ⟨fun b hb => ?_, h3⟩⟩
    rcases h5 with h5 | h5
    · rw [h5] at hb; cases hb
    · rw [h5] at hb; cases hb; exact Nat.le_refl _
  · by_cases hroom : n + m ≤ cap
    · have hfit : n * i.size + news.length ≤ cur.size := by rw [hl, hcs, hsize, ← Nat.add_mul]; exact Nat.mul_le_mul_right _ hroom
      have hr2 := run_append_room (P := P) w t ty e i ht hi g n cap cur hg a m c news (by rw [hsize]; exact hl) hnews h1 hroom hfit
      rw [hr] at hr2
      injection hr2 with e1 e2
      exact ⟨v', w', hr, h2, .inl ⟨by rw [e1]; rfl, h3⟩⟩
    · have holds : ∀ j u, xs[j]? = some u → w.cell? ((⟨g, 0, none⟩ : Addr).add j) = some u := hown.cells (g := g) rfl
      obtain ⟨v2, w2, hr2, h6, h7⟩ := run_append_arg_grows (P := P) w t ty e i z size bytes ht hi hz hsize hby hzs hsz ⟨g, 0, none⟩ n cap xs hown.1 holds a m c news hl hnews (by omega) h63 hbytes
      exact ⟨v2, w2, hr2, ownsRow_base h6 hbase, .inr ⟨fun b hb => (h6.lt b hb).1, h7⟩⟩
theorem wpList_append_two {ops : Array Oper} {rest : List Oper} {o : Oper} {a : Act} {Q : Exit → Act → World → Prop} (hgd : o.guard = none) (s x : Operand) (t : TypeId)
    (ho : o.op = .call { callee := .builtin .append, args := #[s, x], argTypes := #[t, t] })
    (base : Nat) (e : TypeId) (i : TypeInfo) (z : Value) (size bytes : Nat) (ht : P.underlying t = some (.slice e)) (hi : P.info? e = some i) (hz : i.zero = some z)
    (hsize : i.size = size) (hby : i.bytes = bytes) (hzs : z.cells.size = size) (hsz : 0 < size)
    (v : Value) (n : Nat) (xs : List Value) (hs : a.eval s = v) (hown : w.ownsRow base e size v n xs)
    (ad : Addr) (m c : Nat) (news : List Value) (hx : a.eval x = .slice (some ad) m c) (hl : news.length = m * size) (hnews : ∀ j u, news[j]? = some u → w.cell? (ad.add j) = some u) (h1 : ∀ u ∈ news, u.oneCell' = true)
    (h63 : n + m ≤ maxLen) (hbytes : (n + m) * bytes ≤ 140737488355328) (hbase : base ≤ w.heap.size)
    (h : ∀ v' w', w'.ownsRow base e size v' (n + m) (xs ++ news) → ((v'.ownBlock = v.ownBlock ∧ w.grownBy w' v.ownBlock) ∨ ((∀ b, v'.ownBlock = some b → w.heap.size ≤ b) ∧ w.grownBy w' none)) → wpList P ops Q rest (a.put o.dst v') w') :
    wpList P ops Q (o :: rest) a w := by
  refine wpList_plain hgd fun K hK => ?_
  obtain ⟨v', w', hr, h2, h3⟩ := run_append_two (P := P) w base t o.type e i z size bytes ht hi hz hsize hby hzs hsz v n xs hown ad m c news hl hnews h1 h63 hbytes hbase
  unfold Oper.wp execOp
  simp only [ho, resolve, invoke, builtin, Sem.run_bind, Sem.run_pure, Result.andThen_ok, List.map_toArray, List.map_cons, List.map_nil, hs, hx, hr]
  exact hK _ _ (h v' w' h2 h3)
end

namespace Ap
/-- What an append may have done: in place, or in a new block. -/
def Two (w w' : World) (v v' : Value) : Prop := (v'.ownBlock = v.ownBlock ∧ w.grownBy w' v.ownBlock) ∨ ((∀ b, v'.ownBlock = some b → w.heap.size ≤ b) ∧ w.grownBy w' none)
theorem Two.far {w w' : World} {v v' : Value} (h : Two w w' v v') {k : Nat} (hk : k < w.heap.size) (hv : v.ownBlock ≠ some k) : w'.heap[k]? = w.heap[k]? := by
  rcases h with ⟨_, h⟩ | ⟨_, h⟩
  · exact h.block k hk (fun e => hv e.symm)
  · exact h.block k hk (fun e => by cases e)
theorem Two.at {w w' : World} {v v' : Value} (h : Two w w' v v') {b : Nat} (hb : v'.ownBlock = some b) : v.ownBlock = some b ∨ w.heap.size ≤ b := by
  rcases h with ⟨h, _⟩ | ⟨h, _⟩
  · exact .inl (h ▸ hb)
  · exact .inr (h b hb)
theorem Two.size {w w' : World} {v v' : Value} (h : Two w w' v v') : w.heap.size ≤ w'.heap.size := by
  rcases h with ⟨_, h⟩ | ⟨_, h⟩ <;> exact h.size
theorem Two.rest {w w' : World} {v v' : Value} (h : Two w w' v v') : w'.os = w.os ∧ w'.tape = w.tape ∧ w'.output = w.output := by
  rcases h with ⟨_, h⟩ | ⟨_, h⟩ <;> exact ⟨h.os, h.tape, h.output⟩
theorem Two.drop {w w' : World} {v v' : Value} {o : Obj} (h : Two (w.alloc o) w' v v') : Two w w' v v' := by
  rcases h with ⟨h1, h⟩ | ⟨h1, h⟩
  · exact .inl ⟨h1, h.os, h.tape, h.output, Nat.le_trans (by simp) h.size, fun k hk hv => (h.block k (by simp; omega) hv).trans (heap_alloc_old w _ hk)⟩
  · exact .inr ⟨fun b hb => Nat.le_trans (by simp) (h1 b hb), h.os, h.tape, h.output, Nat.le_trans (by simp) h.size, fun k hk hv => (h.block k (by simp; omega) hv).trans (heap_alloc_old w _ hk)⟩
/-- A list is grown: x, of k texts more; what lay there is as it was, but for the list's own row, and the list is still to be seen. -/
structure Q2 (wr wx : World) (B : Nat) (v : Value) (L : List ByteArray) (c : ByteArray) (k : Nat) (x : Value) : Prop where
  own : OwnS wx B x (L ++ List.replicate k c)
  alt : x.ownBlock = v.ownBlock ∨ ((∀ b, x.ownBlock = some b → wr.heap.size ≤ b) ∧ SView wx v L)
  kept : KeptF (fun b => v.ownBlock = some b) wr wx
/-- A beginning of a row that lies in the same block. -/
theorem view_of {w wx : World} {B : Nat} {v x : Value} {L R : List ByteArray} (hv : OwnS w B v L) (hx : OwnS wx B x (L ++ R)) (he : x.ownBlock = v.ownBlock) (hl : L.length ≤ 4611686018427387904) : SView wx v L := by
  obtain ⟨⟨a, cap, rfl⟩, h1⟩ := ownS_form hv
  refine ⟨a, cap, rfl, hl, fun h0 => ?_⟩
  obtain ⟨b, cap', h2, h3, _, h4⟩ := h1 h0
  simp only [Value.slice.injEq, true_and] at h2
  obtain ⟨rfl, rfl⟩ := h2
  obtain ⟨b2, cap2, h5, h6, _, h7⟩ := (ownS_form hx).2 (by simp; omega)
  rw [h5] at he
  simp [Value.ownBlock] at he
  subst he
  refine ⟨b2, rfl, h6, fun q hq => ?_⟩
  rw [h7 q (by simp; omega), List.getElem_append_left hq]
theorem Q2.start {wr : World} {B : Nat} {v : Value} {L : List ByteArray} (c : ByteArray) (h : OwnS wr B v L) : Q2 wr wr B v L c 0 v :=
  ⟨by simpa using h, .inl rfl, KeptF.refl _ _⟩
theorem Q2.view {wr wx : World} {B : Nat} {v x : Value} {L : List ByteArray} {c : ByteArray} {k : Nat} (h : Q2 wr wx B v L c k x) (hv : OwnS wr B v L) (hl : L.length ≤ 4611686018427387904) : SView wx v L := by
  rcases h.alt with h1 | h1
  · exact view_of hv h.own h1 hl
  · exact h1.2
theorem kept_two {F : Nat → Prop} {wr wx w' : World} {x x' : Value} (h : KeptF F wr wx) (ht : Two wx w' x x') (hx : ∀ b, x.ownBlock = some b → b < wr.heap.size → F b) : KeptF F wr w' := by
  obtain ⟨e1, e2, e3⟩ := ht.rest
  refine ⟨e1.trans h.os, e2.trans h.tape, e3.trans h.output, Nat.le_trans h.size ht.size, fun k hk hF => ?_⟩
  exact (ht.far (Nat.lt_of_lt_of_le hk h.size) (fun e => hF (hx k e hk))).trans (h.block k hk hF)
theorem Q2.step {wr wx w' : World} {B : Nat} {v x x' : Value} {L : List ByteArray} {c : ByteArray} {k : Nat} (h : Q2 wr wx B v L c k x) (hv : OwnS wr B v L) (hl : L.length ≤ 4611686018427387904) {n : Nat} (hn : n = (L ++ List.replicate k c).length + 1)
    (ho : w'.ownsRow B 9 1 x' n (strsV (L ++ List.replicate k c) ++ [.string c])) (ht : Two wx w' x x') : Q2 wr w' B v L c (k + 1) x' := by
  have hvw := h.view hv hl
  have hvl : ∀ b, v.ownBlock = some b → b < wr.heap.size := fun b hb => (World.ownsRow.lt hv b hb).2
  have hs := h.kept.size
  refine ⟨?_, ?_, ?_⟩
  · unfold OwnS
    have e : L ++ List.replicate (k + 1) c = (L ++ List.replicate k c) ++ [c] := by rw [List.replicate_succ', List.append_assoc]
    have e2 : strsV ((L ++ List.replicate k c) ++ [c]) = strsV (L ++ List.replicate k c) ++ [.string c] := by simp [strsV]
    rw [e, e2, List.length_append, List.length_singleton, ← hn]
    exact ho
  · rcases h.alt with h1 | h1
    · rcases ht with ⟨h2, h3⟩ | ⟨h2, h3⟩
      · exact .inl (h2.trans h1)
      · exact .inr ⟨fun b hb => Nat.le_trans hs (h2 b hb), hvw.keep (fun b hb => h3.block b (by have := hvl b hb; omega) (fun e => by cases e)) h3.size⟩
    · refine .inr ⟨fun b hb => ?_, hvw.keep (fun b hb => ht.far (by have := hvl b hb; omega) (fun e => ?_)) ht.size⟩
      · rcases ht.at hb with h2 | h2
        · exact h1.1 b h2
        · exact Nat.le_trans hs h2
      · have := h1.1 b e; have := hvl b hb; omega
  · refine kept_two h.kept ht fun b hb hlt => ?_
    rcases h.alt with h1 | h1
    · exact h1 ▸ hb
    · have := h1.1 b hb; omega
end Ap
end Go.Proofs.Ytdohenbicepicaa
