/-
  Lists of the call's own: of states' numbers, of arcs, of states; append onto them; what else stays.
-/
import Derived.Test.YtmpjhbbcfnffhaaZm
import Derived.Maps.AppendAt
import Derived.ArgAppend
namespace Go.Proofs.Ytmpjhbbcfnffhaa
open Go.RowKit

theorem heap_other (w : World) (b i k : Nat) (v : Value) (h : k ≠ b) : (w.setCell ⟨b, i, none⟩ v).heap[k]? = w.heap[k]? :=
  Below.heap_setCell _ _ _ _ (by first | exact h | exact fun e => h e.symm | exact fun e => h e)
/-- Nothing but what F says has turned of what lay there. -/
structure KeptF (F : Nat → Prop) (w w' : World) : Prop where
  os : w'.os = w.os
  tape : w'.tape = w.tape
  output : w'.output = w.output
  size : w.heap.size ≤ w'.heap.size
  block : ∀ k, k < w.heap.size → ¬ F k → w'.heap[k]? = w.heap[k]?
theorem KeptF.refl (F : Nat → Prop) (w : World) : KeptF F w w := ⟨rfl, rfl, rfl, Nat.le_refl _, fun _ _ _ => rfl⟩
theorem KeptF.trans {F : Nat → Prop} {w w' w'' : World} (h : KeptF F w w') (k : KeptF F w' w'') : KeptF F w w'' :=
  ⟨k.os.trans h.os, k.tape.trans h.tape, k.output.trans h.output, Nat.le_trans h.size k.size, fun i hi hf => (k.block i (Nat.lt_of_lt_of_le hi h.size) hf).trans (h.block i hi hf)⟩
theorem KeptF.mono {F G : Nat → Prop} {w w' : World} (h : KeptF F w w') (hm : ∀ k, k < w.heap.size → F k → G k) : KeptF G w w' :=
  ⟨h.os, h.tape, h.output, h.size, fun i hi hf => h.block i hi (fun hF => hf (hm i hi hF))⟩
theorem KeptF.of_below {F : Nat → Prop} {w w' : World} (h : Below w.heap.size w w') : KeptF F w w' := ⟨h.os, h.tape, h.output, h.size, fun k hk _ => h.block k hk⟩
theorem KeptF.set {F : Nat → Prop} {w w' : World} (h : KeptF F w w') (b i : Nat) (hb : F b) (v : Value) : KeptF F w (w'.setCell ⟨b, i, none⟩ v) :=
  h.trans ⟨rfl, rfl, rfl, by simp [World.setCell], fun k _ hk => heap_other _ _ _ _ _ (fun e => hk (e ▸ hb))⟩
theorem KeptF.drew {F : Nat → Prop} {w w' : World} (h : KeptF F w w') : KeptF F w w'.drew := h.trans ⟨rfl, rfl, rfl, Nat.le_refl _, fun _ _ _ => rfl⟩
theorem KeptF.below {F : Nat → Prop} {B : Nat} {w0 w w' : World} (h : Below B w0 w) (k : KeptF F w w') (hF : ∀ k, F k → B ≤ k) (hB : B ≤ w.heap.size) : Below B w0 w' :=
  h.trans ⟨k.os, k.tape, k.output, k.size, fun i hi => k.block i (by omega) (fun hf => by have := hF i hf; omega)⟩

/-- A list that lies where nothing has turned. -/
theorem ownsRow_keep {w w' : World} {B : Nat} {t : TypeId} {z : Nat} {v : Value} {n : Nat} {xs : List Value} (h : w.ownsRow B t z v n xs) (e : ∀ k, v.ownBlock = some k → w'.heap[k]? = w.heap[k]?) : w'.ownsRow B t z v n xs := by
  refine ⟨h.1, ?_⟩
  rcases h.2 with h1 | ⟨g, cap, cur, rfl, hg, hh, hr⟩
  · exact .inl h1
  · exact .inr ⟨g, cap, cur, rfl, hg, (e g rfl).trans hh, hr⟩
theorem ownsRow_base {w : World} {B C : Nat} {t : TypeId} {z : Nat} {v : Value} {n : Nat} {xs : List Value} (h : w.ownsRow B t z v n xs) (hC : C ≤ B) : w.ownsRow C t z v n xs := by
  refine ⟨h.1, ?_⟩
  rcases h.2 with h1 | ⟨g, cap, cur, rfl, hg, hh, hr⟩
  · exact .inl h1
  · exact .inr ⟨g, cap, cur, rfl, Nat.le_trans hC hg, hh, hr⟩
section
variable {P : Program} (w : World)
/-- append onto an own row: in place, and nothing else turns; or into a new block, and nothing old turns at all. -/
theorem run_append_two (base : Nat) (t ty e : TypeId) (i : TypeInfo) (z : Value) (size bytes : Nat) (ht : P.underlying t = some (.slice e)) (hi : P.info? e = some i) (hz : i.zero = some z)
    (hsize : i.size = size) (hby : i.bytes = bytes) (hzs : z.cells.size = size) (hsz : 0 < size)
    (v : Value) (n : Nat) (xs : List Value) (hown : w.ownsRow base e size v n xs)
    (a : Addr) (m c : Nat) (news : List Value) (hl : news.length = m * size) (hnews : ∀ j u, news[j]? = some u → w.cell? (a.add j) = some u) (h1 : ∀ u ∈ news, u.oneCell' = true)
    (h63 : n + m ≤ maxLen) (hbytes : (n + m) * bytes ≤ 140737488355328) (hbase : base ≤ w.heap.size) :
    ∃ v' w', (Builtin.append_ #[t, t] ty #[v, .slice (some a) m c]).run P w = .ok v' w' ∧ w'.ownsRow base e size v' (n + m) (xs ++ news) ∧
      ((v'.ownBlock = v.ownBlock ∧ w.grownBy w' v.ownBlock) ∨ ((∀ b, v'.ownBlock = some b → w.heap.size ≤ b) ∧ w.grownBy w' none)) := by
  obtain ⟨v', w', hr, h2, h3, _, h5⟩ := run_append_own_at (P := P) w base t ty e i z size bytes ht hi hz hsize hby hzs hsz v n xs hown a m c news hl hnews h1 h63 hbytes hbase
  rcases hown.2 with ⟨rfl, rfl⟩ | ⟨g, cap, cur, rfl, hbg, hg, hnc, hcm, hcs, htake⟩
  · refine ⟨v', w', hr, h2, .inr ⟨fun b hb => ?_, h3⟩⟩
    rcases h5 with h5 | h5
    · rw [h5] at hb; cases hb
    · rw [h5] at hb; cases hb; exact Nat.le_refl _
  · by_cases hroom : n + m ≤ cap
    · have hfit : n * i.size + news.length ≤ cur.size := by rw [hl, hcs, hsize, ← Nat.add_mul]; exact Nat.mul_le_mul_right _ hroom
      have hr2 := run_append_room (P := P) w t ty e i ht hi g n cap cur hg a m c news (by rw [hsize]; exact hl) hnews h1 hroom hfit
      rw [hr] at hr2
      injection hr2 with e1 e2
      exact ⟨v', w', hr, h2, .inl ⟨by rw [e1]; rfl, h3⟩⟩
    · have holds : ∀ j u, xs[j]? = some u → w.cell? ((⟨g, 0, none⟩ : Addr).add j) = some u := hown.cells (g := g) rfl
      obtain ⟨v2, w2, hr2, h6, h7⟩ := run_append_arg_grows (P := P) w t ty e i z size bytes ht hi hz hsize hby hzs hsz ⟨g, 0, none⟩ n cap xs hown.1 holds a m c news hl hnews (by omega) h63 hbytes
      exact ⟨v2, w2, hr2, ownsRow_base h6 hbase, .inr ⟨fun b hb => (h6.lt b hb).1, h7⟩⟩
theorem wpList_append_two {ops : Array Oper} {rest : List Oper} {o : Oper} {a : Act} {Q : Exit → Act → World → Prop} (hgd : o.guard = none) (s x : Operand) (t : TypeId)
    (ho : o.op = .call { callee := .builtin .append, args := #[s, x], argTypes := #[t, t] })
    (base : Nat) (e : TypeId) (i : TypeInfo) (z : Value) (size bytes : Nat) (ht : P.underlying t = some (.slice e)) (hi : P.info? e = some i) (hz : i.zero = some z)
    (hsize : i.size = size) (hby : i.bytes = bytes) (hzs : z.cells.size = size) (hsz : 0 < size)
    (v : Value) (n : Nat) (xs : List Value) (hs : a.eval s = v) (hown : w.ownsRow base e size v n xs)
    (ad : Addr) (m c : Nat) (news : List Value) (hx : a.eval x = .slice (some ad) m c) (hl : news.length = m * size) (hnews : ∀ j u, news[j]? = some u → w.cell? (ad.add j) = some u) (h1 : ∀ u ∈ news, u.oneCell' = true)
    (h63 : n + m ≤ maxLen) (hbytes : (n + m) * bytes ≤ 140737488355328) (hbase : base ≤ w.heap.size)
    (h : ∀ v' w', w'.ownsRow base e size v' (n + m) (xs ++ news) → ((v'.ownBlock = v.ownBlock ∧ w.grownBy w' v.ownBlock) ∨ ((∀ b, v'.ownBlock = some b → w.heap.size ≤ b) ∧ w.grownBy w' none)) → wpList P ops Q rest (a.put o.dst v') w') :
    wpList P ops Q (o :: rest) a w := by
  refine wpList_plain hgd fun K hK => ?_
  obtain ⟨v', w', hr, h2, h3⟩ := run_append_two (P := P) w base t o.type e i z size bytes ht hi hz hsize hby hzs hsz v n xs hown ad m c news hl hnews h1 h63 hbytes hbase
  unfold Oper.wp execOp
  simp only [ho, resolve, invoke, builtin, Sem.run_bind, Sem.run_pure, Result.andThen_ok, List.map_toArray, List.map_cons, List.map_nil, hs, hx, hr]
  exact hK _ _ (h v' w' h2 h3)
end

namespace Ap
/-- What an append may have done: in place, or in a new block. -/
def Two (w w' : World) (v v' : Value) : Prop := (v'.ownBlock = v.ownBlock ∧ w.grownBy w' v.ownBlock) ∨ ((∀ b, v'.ownBlock = some b → w.heap.size ≤ b) ∧ w.grownBy w' none)
theorem Two.far {w w' : World} {v v' : Value} (h : Two w w' v v') {k : Nat} (hk : k < w.heap.size) (hv : v.ownBlock ≠ some k) : w'.heap[k]? = w.heap[k]? := by
  rcases h with ⟨_, h⟩ | ⟨_, h⟩
  · exact h.block k hk (fun e => hv e.symm)
  · exact h.block k hk (fun e => by cases e)
theorem Two.at {w w' : World} {v v' : Value} (h : Two w w' v v') {b : Nat} (hb : v'.ownBlock = some b) : v.ownBlock = some b ∨ w.heap.size ≤ b := by
  rcases h with ⟨h, _⟩ | ⟨h, _⟩
  · exact .inl (h ▸ hb)
  · exact .inr (h b hb)
theorem Two.size {w w' : World} {v v' : Value} (h : Two w w' v v') : w.heap.size ≤ w'.heap.size := by
  rcases h with ⟨_, h⟩ | ⟨_, h⟩ <;> exact h.size
theorem Two.rest {w w' : World} {v v' : Value} (h : Two w w' v v') : w'.os = w.os ∧ w'.tape = w.tape ∧ w'.output = w.output := by
  rcases h with ⟨_, h⟩ | ⟨_, h⟩ <;> exact ⟨h.os, h.tape, h.output⟩
theorem Two.drop {w w' : World} {v v' : Value} {o : Obj} (h : Two (w.alloc o) w' v v') : Two w w' v v' := by
  rcases h with ⟨h1, h⟩ | ⟨h1, h⟩
  · exact .inl ⟨h1, h.os, h.tape, h.output, Nat.le_trans (by simp) h.size, fun k hk hv => (h.block k (by simp; omega) hv).trans (Go.Deep.blk_alloc_lt w _ _ hk)⟩
  · exact .inr ⟨fun b hb => Nat.le_trans (by simp) (h1 b hb), h.os, h.tape, h.output, Nat.le_trans (by simp) h.size, fun k hk hv => (h.block k (by simp; omega) hv).trans (Go.Deep.blk_alloc_lt w _ _ hk)⟩
end Ap
theorem Try.infoN : (Try.prog.info? 3).map (fun i => (i.zero, i.size, i.bytes)) = some (some (.int .i64 0), 1, 8) := by kernel_rfl

/-- Numbers as cells. -/
def natsV (l : List Nat) : List Value := l.map (fun (c : Nat) => .int .i64 (c : Int))

theorem natsV_snoc (l : List Nat) (c : Nat) : natsV l ++ [.int .i64 c] = natsV (l ++ [c]) := by simp [natsV]

theorem natsV_append (l r : List Nat) : natsV l ++ natsV r = natsV (l ++ r) := by simp [natsV]

theorem natsV_length (l : List Nat) : (natsV l).length = l.length := by simp [natsV]

/-- The slice v is the call's own, from block B on, and holds these numbers. -/
def OwnN (w : World) (B : Nat) (v : Value) (l : List Nat) : Prop := w.ownsRow B 3 1 v l.length (natsV l)

/-- Behind an append of one number. -/
theorem ownN_push {w wr w1 : World} {B : Nat} {v v' : Value} {l : List Nat} {c : Nat} {o : Obj} (hB : B ≤ wr.heap.size) (h : OwnN wr B v l) (hb : Below B w wr)
    (h1 : w1.ownsRow B 3 1 v' (l.length + 1) (natsV l ++ [.int .i64 c])) (hg : (wr.alloc o).grownBy w1 v.ownBlock) :
    OwnN w1 B v' (l ++ [c]) ∧ Below B w w1 := by
  have hown : wr.ownsRow B 3 1 v l.length (natsV l) := h
  refine ⟨?_, (hb.alloc hB o).grown hg (by simp; omega) (fun j hj => (hown.lt j hj).1)⟩
  unfold OwnN
  rw [natsV_snoc] at h1
  simpa using h1

/-- An own slice, its cells told one by one. -/
theorem ownN_cells {w : World} {B : Nat} {v : Value} {l : List Nat} (h : OwnN w B v l) : ∃ a cap, v = .slice a l.length cap ∧ (0 < l.length → ∃ g, a = some ⟨g, 0, none⟩ ∧ g < w.heap.size ∧ ∀ j (hj : j < l.length), w.cell? ⟨g, j, none⟩ = some (.int .i64 l[j])) := by
  have hown : w.ownsRow B 3 1 v l.length (natsV l) := h
  rcases h.2 with ⟨rfl, h0⟩ | ⟨g, cap, cur, rfl, hg, hh, hnc, hcp, hcs, htake⟩
  · exact ⟨none, 0, by rw [h0], fun h => by omega⟩
  · refine ⟨_, _, rfl, fun h => ⟨g, rfl, (hown.lt g rfl).2, fun j hj => ?_⟩⟩
    rw [hown.cellAt j (by omega)]
    simp [natsV, hj]

/-- The value v is a slice of these numbers. -/
def NatS (w : World) (v : Value) (xs : List Nat) : Prop :=
  ∃ a cap, v = .slice a xs.length cap ∧ xs.length ≤ cap ∧ cap ≤ 9223372036854775807 ∧ (0 < xs.length → ∃ g o, a = some ⟨g, o, none⟩ ∧ g < w.heap.size ∧ ∀ j (_ : j < xs.length), w.cell? ⟨g, o + j, none⟩ = some (.int .i64 xs[j]))

theorem NatS.below {w w' : World} {B : Nat} {v : Value} {xs : List Nat} (h : NatS w v xs) (hb : Below B w w') (hB : w.heap.size ≤ B) : NatS w' v xs := by
  obtain ⟨a, cap, h1, h2, h3, h4⟩ := h
  refine ⟨a, cap, h1, h2, h3, fun h0 => ?_⟩
  obtain ⟨g, o, h5, h6, h7⟩ := h4 h0
  exact ⟨g, o, h5, Nat.lt_of_lt_of_le h6 hb.size, fun j hj => (hb.cell (p := ⟨g, o + j, none⟩) (Nat.lt_of_lt_of_le h6 hB)).trans (h7 j hj)⟩

theorem OwnN.ints {w : World} {B : Nat} {v : Value} {l : List Nat} (h : OwnN w B v l) (_ : l.length ≤ 140737488355328) : NatS w v l := by
  rcases h.2 with ⟨rfl, h0⟩ | ⟨g, cap, cur, rfl, hg, hh, hnc, hcp, hcs, htake⟩
  · exact ⟨none, 0, by rw [h0], by omega, by omega, fun h => by omega⟩
  · have hown : w.ownsRow B 3 1 (.slice (some ⟨g, 0, none⟩) l.length cap) l.length (natsV l) := h
    refine ⟨_, cap, rfl, hnc, by unfold maxLen at hcp; omega, fun h => ⟨g, 0, rfl, (hown.lt g rfl).2, fun j hj => ?_⟩⟩
    rw [Nat.zero_add, hown.cellAt j (by omega)]
    simp [natsV, hj]

/-- Behind an append of numbers that lie elsewhere. -/
theorem ownN_pushAll {w wr w1 : World} {B : Nat} {v v' : Value} {l r : List Nat} (hB : B ≤ wr.heap.size) (h : OwnN wr B v l) (hb : Below B w wr)
    (h1 : w1.ownsRow B 3 1 v' (l.length + r.length) (natsV l ++ natsV r)) (hg : wr.grownBy w1 v.ownBlock) :
    OwnN w1 B v' (l ++ r) ∧ Below B w w1 := by
  have hown : wr.ownsRow B 3 1 v l.length (natsV l) := h
  refine ⟨?_, hb.grown hg hB (fun j hj => (hown.lt j hj).1)⟩
  unfold OwnN
  rw [natsV_append] at h1
  simpa using h1

/-- 'append(v, c)' of one number, which lies in a new block. -/
theorem wpList_pushN {ops : Array Oper} {rest : List Oper} {o : Oper} {a : Act} {Q : Exit → Act → World → Prop} {w : World} (hgd : o.guard = none) (s x : Operand)
    (ho : o.op = .call { callee := .builtin .append, args := #[s, x], argTypes := #[38, 38] })
    (B : Nat) (hB : B ≤ w.heap.size) (v : Value) (l : List Nat) (c : Nat) (hs : a.eval s = v) (h : OwnN w B v l) (hx : a.eval x = .slice (some ⟨w.heap.size, 0, none⟩) 1 1)
    (hb : l.length + 1 ≤ 17592186044416)
    (hk : ∀ v' w', OwnN w' B v' (l ++ [c]) → Below B w w' → (w.alloc (.cells #[.int .i64 c] 3)).grownBy w' v.ownBlock → wpList Try.prog ops Q rest (a.put o.dst v') w') :
    wpList Try.prog ops Q (o :: rest) a (w.alloc (.cells #[.int .i64 c] 3)) := by
  obtain ⟨ii, hi, hz0, hz1, hz2⟩ := info_parts Try.infoN
  have hown : w.ownsRow B 3 1 v l.length (natsV l) := h
  refine wpList_append_own _ hgd s x 38 ho B 3 ii (.int .i64 0) 1 8 Try.underlying38 hi hz0 hz1 hz2 rfl (by decide) _ _ _ hs (hown.alloc _) ⟨w.heap.size, 0, none⟩ 1 1 [.int .i64 c] hx rfl ?_ ?_ (by unfold maxLen; omega) (by omega) (by simp; omega) ?_
  · intro j u hj
    match j, hj with
    | 0, hj => simp at hj; subst hj; simp [Addr.add]
  · intro u hu
    simp at hu
    subst hu
    rfl
  · intro v' w' h1 h2 _
    obtain ⟨h3, h4⟩ := ownN_push hB h (Below.refl B w) h1 h2
    exact hk v' w' h3 h4 h2


/-- Arcs as cells. -/
def arcsV (l : List Au.Arc) : List Value := l.flatMap fun x => [.int .i64 x.lo, .int .i64 x.hi, .int .i64 x.to]
theorem arcsV_length (l : List Au.Arc) : (arcsV l).length = l.length * 3 := by
  induction l with
  | nil => rfl
  | cons x t ih =>
    show (_ :: _ :: _ :: arcsV t).length = _
    simp only [List.length_cons, ih]
    omega
theorem arcsV_snoc (l : List Au.Arc) (x : Au.Arc) : arcsV l ++ [.int .i64 x.lo, .int .i64 x.hi, .int .i64 x.to] = arcsV (l ++ [x]) := by simp [arcsV]
theorem arcsV_at (l : List Au.Arc) : ∀ i (h : i < l.length), (arcsV l)[i * 3]? = some (.int .i64 l[i].lo) ∧ (arcsV l)[i * 3 + 1]? = some (.int .i64 l[i].hi) ∧ (arcsV l)[i * 3 + 2]? = some (.int .i64 l[i].to) := by
  induction l with
  | nil => intro i h; cases h
  | cons x t ih =>
    intro i h
    cases i with
    | zero => exact ⟨rfl, rfl, rfl⟩
    | succ i =>
      simp only [List.length_cons, Nat.add_lt_add_iff_right] at h
      have e : (i + 1) * 3 = i * 3 + 1 + 1 + 1 := by omega
      rw [e]
      exact ih i h
theorem Try.infoA : (Try.prog.info? 42).map (fun i => (i.zero, i.size, i.bytes)) = some (some (.agg #[.int .i64 0, .int .i64 0, .int .i64 0]), 3, 24) := by kernel_rfl
/-- The slice v is the call's own, from block B on, and holds these arcs. -/
def OwnA (w : World) (B : Nat) (v : Value) (l : List Au.Arc) : Prop := w.ownsRow B 42 3 v l.length (arcsV l)
theorem OwnA.opened {w : World} {B : Nat} {v : Value} {l : List Au.Arc} (h : OwnA w B v l) : ∃ a cap, v = .slice a l.length cap ∧ l.length ≤ cap ∧ cap ≤ 9223372036854775807 ∧ (0 < l.length → ∃ g, a = some ⟨g, 0, none⟩ ∧ B ≤ g ∧ g < w.heap.size ∧ (∀ j, w.frozen? ⟨g, j, none⟩ = false) ∧
    ∀ j (_ : j < l.length), w.cell? ⟨g, j * 3, none⟩ = some (.int .i64 l[j].lo) ∧ w.cell? ⟨g, j * 3 + 1, none⟩ = some (.int .i64 l[j].hi) ∧ w.cell? ⟨g, j * 3 + 2, none⟩ = some (.int .i64 l[j].to)) := by
  rcases h.2 with ⟨rfl, h0⟩ | ⟨g, cap, cur, rfl, hg, hh, hnc, hcp, hcs, htake⟩
  · exact ⟨none, 0, by rw [h0], by omega, by omega, fun h => by omega⟩
  · have hown : w.ownsRow B 42 3 (.slice (some ⟨g, 0, none⟩) l.length cap) l.length (arcsV l) := h
    refine ⟨_, cap, rfl, hnc, by unfold maxLen at hcp; omega, fun _ => ⟨g, rfl, hg, (hown.lt g rfl).2, fun j => by simp [World.frozen?, hh], fun j hj => ?_⟩⟩
    obtain ⟨a1, a2, a3⟩ := arcsV_at l j hj
    exact ⟨(hown.cellAt _ (by omega)).trans a1, (hown.cellAt _ (by omega)).trans a2, (hown.cellAt _ (by omega)).trans a3⟩
theorem OwnA.arcs {w : World} {B : Nat} {v : Value} {l : List Au.Arc} (h : OwnA w B v l) (F : Nat → Prop) (hF : ∀ g, B ≤ g → F g) : ArcS F w v l := by
  obtain ⟨a, cap, h1, h2, h3, h4⟩ := h.opened
  refine ⟨a, cap, h1, h2, h3, fun h0 => ?_⟩
  obtain ⟨g, h5, h6, h7, _, h8⟩ := h4 h0
  exact ⟨g, 0, h5, h7, hF g h6, fun j hj => by simpa using h8 j hj⟩
theorem OwnA.keep {w w' : World} {B : Nat} {v : Value} {l : List Au.Arc} (h : OwnA w B v l) (e : ∀ k, v.ownBlock = some k → w'.heap[k]? = w.heap[k]?) : OwnA w' B v l := ownsRow_keep h e
theorem OwnA.lt {w : World} {B : Nat} {v : Value} {l : List Au.Arc} (h : OwnA w B v l) : ∀ k, v.ownBlock = some k → B ≤ k ∧ k < w.heap.size := World.ownsRow.lt h
theorem OwnA.nil0 (w : World) (B : Nat) : OwnA w B (.slice none 0 0) [] := World.ownsRow_nil w B _ _
theorem OwnA.kind {w : World} {B : Nat} {v : Value} {l : List Au.Arc} (h : OwnA w B v l) : ∀ g, v.ownBlock = some g → ∃ c fz, w.heap[g]? = some (.cells c 42 fz) := by
  intro g hv
  rcases h.2 with ⟨h1, _⟩ | ⟨g', cap, cur, h1, hg, hh, _⟩
  · rw [h1] at hv; cases hv
  · rw [h1] at hv
    obtain rfl : g' = g := by simpa [Value.ownBlock] using hv
    exact ⟨_, _, hh⟩
theorem OwnN.kind {w : World} {B : Nat} {v : Value} {l : List Nat} (h : OwnN w B v l) : ∀ g, v.ownBlock = some g → ∃ c fz, w.heap[g]? = some (.cells c 3 fz) := by
  intro g hv
  rcases h.2 with ⟨h1, _⟩ | ⟨g', cap, cur, h1, hg, hh, _⟩
  · rw [h1] at hv; cases hv
  · rw [h1] at hv
    obtain rfl : g' = g := by simpa [Value.ownBlock] using hv
    exact ⟨_, _, hh⟩
/-- The last arc goes on. -/
theorem OwnA.last {w : World} {B : Nat} {g cap : Nat} {r : List Au.Arc} {x : Au.Arc} {n : Nat} (h : OwnA w B (.slice (some ⟨g, 0, none⟩) n cap) (r ++ [x])) (hn : n = r.length + 1) (c : Int) : OwnA (w.setCell ⟨g, r.length * 3 + 1, none⟩ (.int .i64 c)) B (.slice (some ⟨g, 0, none⟩) n cap) (r ++ [⟨x.lo, c, x.to⟩]) ∧ w.grownBy (w.setCell ⟨g, r.length * 3 + 1, none⟩ (.int .i64 c)) (some g) := by
  have hl : (r ++ [x]).length = n := by simp [hn]
  have hl2 : (r ++ [(⟨x.lo, c, x.to⟩ : Au.Arc)]).length = n := by simp [hn]
  unfold OwnA at h ⊢
  rw [hl] at h
  rw [hl2]
  have hs := h.stored (r.length * 3 + 1) (.int .i64 c)
  have he : (arcsV (r ++ [x])).set (r.length * 3 + 1) (.int .i64 c) = arcsV (r ++ [(⟨x.lo, c, x.to⟩ : Au.Arc)]) := by
    rw [← arcsV_snoc, ← arcsV_snoc, List.set_append_right _ _ (by rw [arcsV_length]; omega), arcsV_length, show r.length * 3 + 1 - r.length * 3 = 1 by omega]
    rfl
  rw [he] at hs
  exact hs
theorem new_arc (w : World) (a b c : Int) : ∀ j u, [Value.int .i64 a, .int .i64 b, .int .i64 c][j]? = some u → (w.alloc (.cells #[.int .i64 a, .int .i64 b, .int .i64 c] 42)).cell? ((⟨w.heap.size, 0, none⟩ : Addr).add j) = some u := by
  intro j u hj
  match j, hj with
  | 0, hj => simp at hj; subst hj; simp [Addr.add]
  | 1, hj => simp at hj; subst hj; simp [Addr.add]
  | 2, hj => simp at hj; subst hj; simp [Addr.add]
theorem one_arc (a b c : Int) : ∀ u ∈ [Value.int .i64 a, .int .i64 b, .int .i64 c], u.oneCell' = true := by
  intro u hu
  simp only [List.mem_cons, List.mem_nil_iff, or_false] at hu
  rcases hu with rfl | rfl | rfl <;> rfl
/-- 'append(v, Arc)' of one arc, which lies in a new block. -/
theorem wpList_pushA {ops : Array Oper} {rest : List Oper} {o : Oper} {a : Act} {Q : Exit → Act → World → Prop} {w : World} (hgd : o.guard = none) (s x : Operand)
    (ho : o.op = .call { callee := .builtin .append, args := #[s, x], argTypes := #[37, 37] })
    (B : Nat) (hB : B ≤ w.heap.size) (v : Value) (l : List Au.Arc) (p q r : Int) (hs : a.eval s = v) (h : OwnA w B v l) (hx : a.eval x = .slice (some ⟨w.heap.size, 0, none⟩) 1 1)
    (hb : l.length + 1 ≤ 1099511627776)
    (hk : ∀ v' w', OwnA w' B v' (l ++ [⟨p, q, r⟩]) → Ap.Two w w' v v' → wpList Try.prog ops Q rest (a.put o.dst v') w') :
    wpList Try.prog ops Q (o :: rest) a (w.alloc (.cells #[.int .i64 p, .int .i64 q, .int .i64 r] 42)) := by
  obtain ⟨ii, hi, hz0, hz1, hz2⟩ := info_parts Try.infoA
  have hown : w.ownsRow B 42 3 v l.length (arcsV l) := h
  refine wpList_append_two _ hgd s x 37 ho B 42 ii _ 3 24 Try.underlying37 hi hz0 hz1 hz2 rfl (by decide) _ _ _ hs (hown.alloc _) ⟨w.heap.size, 0, none⟩ 1 1 [.int .i64 p, .int .i64 q, .int .i64 r] hx rfl (new_arc w p q r) (one_arc p q r) (by unfold maxLen; omega) (by omega) (by simp; omega) ?_
  intro v' w' h1 h2
  refine hk v' w' ?_ (Ap.Two.drop h2)
  unfold OwnA
  rw [arcsV_snoc l ⟨p, q, r⟩] at h1
  simpa using h1
theorem new_nat (w : World) (c : Nat) : ∀ j u, [Value.int .i64 c][j]? = some u → (w.alloc (.cells #[.int .i64 c] 3)).cell? ((⟨w.heap.size, 0, none⟩ : Addr).add j) = some u := by
  intro j u hj
  match j, hj with
  | 0, hj => simp at hj; subst hj; simp [Addr.add]
/-- 'append(v, n)' of one number, which lies in a new block. -/
theorem wpList_pushN2 {ops : Array Oper} {rest : List Oper} {o : Oper} {a : Act} {Q : Exit → Act → World → Prop} {w : World} (hgd : o.guard = none) (s x : Operand)
    (ho : o.op = .call { callee := .builtin .append, args := #[s, x], argTypes := #[38, 38] })
    (B : Nat) (hB : B ≤ w.heap.size) (v : Value) (l : List Nat) (c : Nat) (hs : a.eval s = v) (h : OwnN w B v l) (hx : a.eval x = .slice (some ⟨w.heap.size, 0, none⟩) 1 1)
    (hb : l.length + 1 ≤ 1099511627776)
    (hk : ∀ v' w', OwnN w' B v' (l ++ [c]) → Ap.Two w w' v v' → wpList Try.prog ops Q rest (a.put o.dst v') w') :
    wpList Try.prog ops Q (o :: rest) a (w.alloc (.cells #[.int .i64 c] 3)) := by
  obtain ⟨ii, hi, hz0, hz1, hz2⟩ := info_parts Try.infoN
  have hown : w.ownsRow B 3 1 v l.length (natsV l) := h
  refine wpList_append_two _ hgd s x 38 ho B 3 ii (.int .i64 0) 1 8 Try.underlying38 hi hz0 hz1 hz2 rfl (by decide) _ _ _ hs (hown.alloc _) ⟨w.heap.size, 0, none⟩ 1 1 [.int .i64 c] hx rfl (new_nat w c) ?_ (by unfold maxLen; omega) (by omega) (by simp; omega) ?_
  · intro u hu
    simp at hu
    subst hu
    rfl
  · intro v' w' h1 h2
    refine hk v' w' ?_ (Ap.Two.drop h2)
    unfold OwnN
    rw [natsV_snoc] at h1
    simpa using h1
/-- States as cells: is it final, its arcs' slice. -/
def stsV (l : List (Bool × Value)) : List Value := l.flatMap fun x => [.bool x.1, x.2]
theorem stsV_length (l : List (Bool × Value)) : (stsV l).length = l.length * 2 := by
  induction l with
  | nil => rfl
  | cons x t ih =>
    show (_ :: _ :: stsV t).length = _
    simp only [List.length_cons, ih]
    omega
theorem stsV_snoc (l : List (Bool × Value)) (x : Bool × Value) : stsV l ++ [.bool x.1, x.2] = stsV (l ++ [x]) := by simp [stsV]
theorem stsV_at (l : List (Bool × Value)) : ∀ i (h : i < l.length), (stsV l)[i * 2]? = some (.bool l[i].1) ∧ (stsV l)[i * 2 + 1]? = some l[i].2 := by
  induction l with
  | nil => intro i h; cases h
  | cons x t ih =>
    intro i h
    cases i with
    | zero => exact ⟨rfl, rfl⟩
    | succ i =>
      simp only [List.length_cons, Nat.add_lt_add_iff_right] at h
      have e : (i + 1) * 2 = i * 2 + 1 + 1 := by omega
      rw [e]
      exact ih i h
end Go.Proofs.Ytmpjhbbcfnffhaa
