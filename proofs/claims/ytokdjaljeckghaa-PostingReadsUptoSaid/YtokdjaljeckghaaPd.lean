/-
  What the walks share: lists of the call's own, of numbers and of postings; what else stays.
-/
import Derived.Test.YtokdjaljeckghaaPb
import Derived.Test.YtokdjaljeckghaaPc
import Derived.Test.YtokdjaljeckghaaRefAll
import Derived.ArgAppend
import Derived.Maps.AppendAt
import Derived.Deep.AppendLies
import Derived.Deep.RegionHeld3
import Derived.Deep.RegionWith
import Derived.Deep.RegionLaw
import Derived.Deep.OwnRows
import Derived.Deep.LoopGhost
import Derived.BigRegion
import Derived.BigQuiet
import Derived.Laws.StructEq
import Derived.Laws.AppendOwnNone
namespace Go.Proofs.Ytokdjaljeckghaa
open Go.RowKit

theorem heap_other (w : World) (b i k : Nat) (v : Value) (h : k ≠ b) : (w.setCell ⟨b, i, none⟩ v).heap[k]? = w.heap[k]? :=
  Below.heap_setCell _ _ _ _ (by first | exact h | exact fun e => h e.symm | exact fun e => h e)
/-- Nothing but what F says has turned of what lay there. -/
structure KeptF (F : Nat → Prop) (w w' : World) : Prop where
  os : w'.os = w.os
  tape : w'.tape = w.tape
  output : w'.output = w.output
  size : w.heap.size ≤ w'.heap.size
  block : ∀ k, k < w.heap.size → ¬ F k → w'.heap[k]? = w.heap[k]?
theorem KeptF.refl (F : Nat → Prop) (w : World) : KeptF F w w := ⟨rfl, rfl, rfl, Nat.le_refl _, fun _ _ _ => rfl⟩
theorem KeptF.trans {F : Nat → Prop} {w w' w'' : World} (h : KeptF F w w') (k : KeptF F w' w'') : KeptF F w w'' :=
  ⟨k.os.trans h.os, k.tape.trans h.tape, k.output.trans h.output, Nat.le_trans h.size k.size, fun i hi hf => (k.block i (Nat.lt_of_lt_of_le hi h.size) hf).trans (h.block i hi hf)⟩
theorem KeptF.mono {F G : Nat → Prop} {w w' : World} (h : KeptF F w w') (hm : ∀ k, k < w.heap.size → F k → G k) : KeptF G w w' :=
  ⟨h.os, h.tape, h.output, h.size, fun i hi hf => h.block i hi (fun hF => hf (hm i hi hF))⟩
theorem KeptF.of_below {F : Nat → Prop} {w w' : World} (h : Below w.heap.size w w') : KeptF F w w' := ⟨h.os, h.tape, h.output, h.size, fun k hk _ => h.block k hk⟩
theorem KeptF.set {F : Nat → Prop} {w w' : World} (h : KeptF F w w') (b i : Nat) (hb : F b) (v : Value) : KeptF F w (w'.setCell ⟨b, i, none⟩ v) :=
  h.trans ⟨rfl, rfl, rfl, by simp [World.setCell], fun k _ hk => heap_other _ _ _ _ _ (fun e => hk (e ▸ hb))⟩
theorem KeptF.drew {F : Nat → Prop} {w w' : World} (h : KeptF F w w') : KeptF F w w'.drew := h.trans ⟨rfl, rfl, rfl, Nat.le_refl _, fun _ _ _ => rfl⟩
theorem KeptF.below {F : Nat → Prop} {B : Nat} {w0 w w' : World} (h : Below B w0 w) (k : KeptF F w w') (hF : ∀ k, F k → B ≤ k) (hB : B ≤ w.heap.size) : Below B w0 w' :=
  h.trans ⟨k.os, k.tape, k.output, k.size, fun i hi => k.block i (by omega) (fun hf => by have := hF i hf; omega)⟩

/-- A list that lies where nothing has turned. -/
theorem ownsRow_keep {w w' : World} {B : Nat} {t : TypeId} {z : Nat} {v : Value} {n : Nat} {xs : List Value} (h : w.ownsRow B t z v n xs) (e : ∀ k, v.ownBlock = some k → w'.heap[k]? = w.heap[k]?) : w'.ownsRow B t z v n xs := by
  refine ⟨h.1, ?_⟩
  rcases h.2 with h1 | ⟨g, cap, cur, rfl, hg, hh, hr⟩
  · exact .inl h1
  · exact .inr ⟨g, cap, cur, rfl, hg, (e g rfl).trans hh, hr⟩
theorem ownsRow_base {w : World} {B C : Nat} {t : TypeId} {z : Nat} {v : Value} {n : Nat} {xs : List Value} (h : w.ownsRow B t z v n xs) (hC : C ≤ B) : w.ownsRow C t z v n xs := by
  refine ⟨h.1, ?_⟩
  rcases h.2 with h1 | ⟨g, cap, cur, rfl, hg, hh, hr⟩
  · exact .inl h1
  · exact .inr ⟨g, cap, cur, rfl, Nat.le_trans hC hg, hh, hr⟩
section
variable {P : Program} (w : World)
/-- append onto an own row: in place, and nothing else turns; or into a new block, and nothing old turns at all. -/
theorem run_append_two (base : Nat) (t ty e : TypeId) (i : TypeInfo) (z : Value) (size bytes : Nat) (ht : P.underlying t = some (.slice e)) (hi : P.info? e = some i) (hz : i.zero = some z)
    (hsize : i.size = size) (hby : i.bytes = bytes) (hzs : z.cells.size = size) (hsz : 0 < size)
    (v : Value) (n : Nat) (xs : List Value) (hown : w.ownsRow base e size v n xs)
    (a : Addr) (m c : Nat) (news : List Value) (hl : news.length = m * size) (hnews : ∀ j u, news[j]? = some u → w.cell? (a.add j) = some u) (h1 : ∀ u ∈ news, u.oneCell' = true)
    (h63 : n + m ≤ maxLen) (hbytes : (n + m) * bytes ≤ 140737488355328) (hbase : base ≤ w.heap.size) :
    ∃ v' w', (Builtin.append_ #[t, t] ty #[v, .slice (some a) m c]).run P w = .ok v' w' ∧ w'.ownsRow base e size v' (n + m) (xs ++ news) ∧
      ((v'.ownBlock = v.ownBlock ∧ w.grownBy w' v.ownBlock) ∨ ((∀ b, v'.ownBlock = some b → w.heap.size ≤ b) ∧ w.grownBy w' none)) := by
  obtain ⟨v', w', hr, h2, h3, _, h5⟩ := run_append_own_at (P := P) w base t ty e i z size bytes ht hi hz hsize hby hzs hsz v n xs hown a m c news hl hnews h1 h63 hbytes hbase
  rcases hown.2 with ⟨rfl, rfl⟩ | ⟨g, cap, cur, rfl, hbg, hg, hnc, hcm, hcs, htake⟩
  · refine ⟨v', w', hr, h2, .inr ⟨fun b hb => ?_, h3⟩⟩
    rcases h5 with h5 | h5
    · rw [h5] at hb; cases hb
    · rw [h5] at hb; cases hb; exact Nat.le_refl _
  · by_cases hroom : n + m ≤ cap
    · have hfit : n * i.size + news.length ≤ cur.size := by rw [hl, hcs, hsize, ← Nat.add_mul]; exact Nat.mul_le_mul_right _ hroom
      have hr2 := run_append_room (P := P) w t ty e i ht hi g n cap cur hg a m c news (by rw [hsize]; exact hl) hnews h1 hroom hfit
      rw [hr] at hr2
      injection hr2 with e1 e2
      exact ⟨v', w', hr, h2, .inl ⟨by rw [e1]; rfl, h3⟩⟩
    · have holds : ∀ j u, xs[j]? = some u → w.cell? ((⟨g, 0, none⟩ : Addr).add j) = some u := hown.cells (g := g) rfl
      obtain ⟨v2, w2, hr2, h6, h7⟩ := run_append_arg_grows (P := P) w t ty e i z size bytes ht hi hz hsize hby hzs hsz ⟨g, 0, none⟩ n cap xs hown.1 holds a m c news hl hnews (by omega) h63 hbytes
      exact ⟨v2, w2, hr2, ownsRow_base h6 hbase, .inr ⟨fun b hb => (h6.lt b hb).1, h7⟩⟩
theorem wpList_append_two {ops : Array Oper} {rest : List Oper} {o : Oper} {a : Act} {Q : Exit → Act → World → Prop} (hgd : o.guard = none) (s x : Operand) (t : TypeId)
    (ho : o.op = .call { callee := .builtin .append, args := #[s, x], argTypes := #[t, t] })
    (base : Nat) (e : TypeId) (i : TypeInfo) (z : Value) (size bytes : Nat) (ht : P.underlying t = some (.slice e)) (hi : P.info? e = some i) (hz : i.zero = some z)
    (hsize : i.size = size) (hby : i.bytes = bytes) (hzs : z.cells.size = size) (hsz : 0 < size)
    (v : Value) (n : Nat) (xs : List Value) (hs : a.eval s = v) (hown : w.ownsRow base e size v n xs)
    (ad : Addr) (m c : Nat) (news : List Value) (hx : a.eval x = .slice (some ad) m c) (hl : news.length = m * size) (hnews : ∀ j u, news[j]? = some u → w.cell? (ad.add j) = some u) (h1 : ∀ u ∈ news, u.oneCell' = true)
    (h63 : n + m ≤ maxLen) (hbytes : (n + m) * bytes ≤ 140737488355328) (hbase : base ≤ w.heap.size)
    (h : ∀ v' w', w'.ownsRow base e size v' (n + m) (xs ++ news) → ((v'.ownBlock = v.ownBlock ∧ w.grownBy w' v.ownBlock) ∨ ((∀ b, v'.ownBlock = some b → w.heap.size ≤ b) ∧ w.grownBy w' none)) → wpList P ops Q rest (a.put o.dst v') w') :
    wpList P ops Q (o :: rest) a w := by
  refine wpList_plain hgd fun K hK => ?_
  obtain ⟨v', w', hr, h2, h3⟩ := run_append_two (P := P) w base t o.type e i z size bytes ht hi hz hsize hby hzs hsz v n xs hown ad m c news hl hnews h1 h63 hbytes hbase
  unfold Oper.wp execOp
  simp only [ho, resolve, invoke, builtin, Sem.run_bind, Sem.run_pure, Result.andThen_ok, List.map_toArray, List.map_cons, List.map_nil, hs, hx, hr]
  exact hK _ _ (h v' w' h2 h3)
end

namespace Ap
/-- What an append may have done: in place, or in a new block. -/
def Two (w w' : World) (v v' : Value) : Prop := (v'.ownBlock = v.ownBlock ∧ w.grownBy w' v.ownBlock) ∨ ((∀ b, v'.ownBlock = some b → w.heap.size ≤ b) ∧ w.grownBy w' none)
theorem Two.far {w w' : World} {v v' : Value} (h : Two w w' v v') {k : Nat} (hk : k < w.heap.size) (hv : v.ownBlock ≠ some k) : w'.heap[k]? = w.heap[k]? := by
  rcases h with ⟨_, h⟩ | ⟨_, h⟩
  · exact h.block k hk (fun e => hv e.symm)
  · exact h.block k hk (fun e => by cases e)
theorem Two.at {w w' : World} {v v' : Value} (h : Two w w' v v') {b : Nat} (hb : v'.ownBlock = some b) : v.ownBlock = some b ∨ w.heap.size ≤ b := by
  rcases h with ⟨h, _⟩ | ⟨h, _⟩
  · exact .inl (h ▸ hb)
  · exact .inr (h b hb)
theorem Two.size {w w' : World} {v v' : Value} (h : Two w w' v v') : w.heap.size ≤ w'.heap.size := by
  rcases h with ⟨_, h⟩ | ⟨_, h⟩ <;> exact h.size
theorem Two.rest {w w' : World} {v v' : Value} (h : Two w w' v v') : w'.os = w.os ∧ w'.tape = w.tape ∧ w'.output = w.output := by
  rcases h with ⟨_, h⟩ | ⟨_, h⟩ <;> exact ⟨h.os, h.tape, h.output⟩
theorem Two.drop {w w' : World} {v v' : Value} {o : Obj} (h : Two (w.alloc o) w' v v') : Two w w' v v' := by
  rcases h with ⟨h1, h⟩ | ⟨h1, h⟩
  · exact .inl ⟨h1, h.os, h.tape, h.output, Nat.le_trans (by simp) h.size, fun k hk hv => (h.block k (by simp; omega) hv).trans (Go.Deep.blk_alloc_lt w _ _ hk)⟩
  · exact .inr ⟨fun b hb => Nat.le_trans (by simp) (h1 b hb), h.os, h.tape, h.output, Nat.le_trans (by simp) h.size, fun k hk hv => (h.block k (by simp; omega) hv).trans (Go.Deep.blk_alloc_lt w _ _ hk)⟩
end Ap
theorem Try.infoPo : (Try.prog.info? 40).map (fun i => (i.zero, i.size, i.bytes)) = some (some (.agg #[.int .i64 0, .slice none 0 0]), 2, 32) := by kernel_rfl
theorem Try.infoIs : (Try.prog.info? 38).map (fun i => (i.zero, i.size, i.bytes)) = some (some (.slice none 0 0), 1, 24) := by kernel_rfl
theorem heap_set (w : World) (g k : Nat) (v : Value) (cur : Array Value) (t : TypeId) (fz : Nat × Nat) (h : w.heap[g]? = some (.cells cur t fz)) : (w.setCell ⟨g, k, none⟩ v).heap[g]? = some (.cells (cur.setIfInBounds k v) t fz) := by
  simp [World.setCell, Array.getElem?_modify, h]
theorem kinds_ne {w : World} {g k : Nat} {c c' : Array Value} {t t' : TypeId} {fz fz' : Nat × Nat} (h : w.heap[g]? = some (.cells c t fz)) (h' : w.heap[k]? = some (.cells c' t' fz')) (ht : t ≠ t') : g ≠ k := by
  rintro rfl
  rw [h] at h'
  injection h' with h'
  injection h' with _ h2
  exact ht h2
/-! ### own numbers -/
theorem ownsRow_kind {w : World} {B : Nat} {t : TypeId} {z : Nat} {v : Value} {n : Nat} {xs : List Value} (h : w.ownsRow B t z v n xs) : ∀ g, v.ownBlock = some g → B ≤ g ∧ g < w.heap.size ∧ ∃ c : Array Value, w.heap[g]? = some (.cells c t (0, 0)) := by
  intro g hv
  refine ⟨(World.ownsRow.lt h g hv).1, (World.ownsRow.lt h g hv).2, ?_⟩
  rcases h.2 with ⟨h1, _⟩ | ⟨g', cap, cur, h1, hg, hh, _⟩
  · rw [h1] at hv; cases hv
  · rw [h1] at hv
    obtain rfl : g' = g := by simpa [Value.ownBlock] using hv
    exact ⟨_, hh⟩
theorem ownsRow_cell' {w : World} {B : Nat} {t : TypeId} {z : Nat} {v : Value} {n : Nat} {xs : List Value} (h : w.ownsRow B t z v n xs) : v.oneCell' = true := by
  rcases h.2 with ⟨rfl, _⟩ | ⟨g, cap, cur, rfl, _⟩ <;> rfl
theorem OwnI.opened {w : World} {B : Nat} {v : Value} {l : List Int} (h : OwnI w B v l) : ∃ g a cap, v = .slice a l.length cap ∧ l.length ≤ cap ∧ cap ≤ 9223372036854775807 ∧ (0 < l.length → a = some ⟨g, 0, none⟩ ∧ g < w.heap.size) ∧ B ≤ g ∧ (∀ k, v.ownBlock = some k → k = g) ∧
    (∀ j (_ : j < l.length), w.cell? ⟨g, j, none⟩ = some (.int .i64 l[j])) ∧ (0 < l.length → ∀ j, w.frozen? ⟨g, j, none⟩ = false) := by
  rcases h.2 with ⟨rfl, h0⟩ | ⟨g, cap, cur, rfl, hg, hh, hnc, hcp, hcs, htake⟩
  · exact ⟨B, none, 0, by rw [h0], by omega, by omega, fun h => by omega, Nat.le_refl _, fun k hk => (by cases hk), fun i hi => by omega, fun h => by omega⟩
  · have hown : w.ownsRow B 3 1 (.slice (some ⟨g, 0, none⟩) l.length cap) l.length (intsV l) := h
    refine ⟨g, _, cap, rfl, hnc, by unfold maxLen at hcp; omega, fun _ => ⟨rfl, (hown.lt g rfl).2⟩, hg, fun k hk => by simpa [Value.ownBlock] using hk.symm, fun j hj => ?_, fun _ j => by simp [World.frozen?, hh]⟩
    rw [hown.cellAt j (by omega)]
    simp [intsV, hj]
theorem OwnI.intF {w : World} {B : Nat} {v : Value} {l : List Int} (h : OwnI w B v l) : IntF (fun g => B ≤ g) w v l := by
  obtain ⟨g, a, cap, h1, h2, h3, h4, h5, _, h6, _⟩ := h.opened
  exact ⟨a, cap, h1, h2, h3, fun h0 => ⟨g, 0, (h4 h0).1, (h4 h0).2, h5, fun j hj => by rw [Nat.zero_add]; exact h6 j hj⟩⟩
theorem OwnI.keepB {w w' : World} {B : Nat} {v : Value} {l : List Int} (h : OwnI w B v l) (e : ∀ k, v.ownBlock = some k → w'.heap[k]? = w.heap[k]?) : OwnI w' B v l := ownsRow_keep h e
theorem OwnI.base {w : World} {B C : Nat} {v : Value} {l : List Int} (h : OwnI w B v l) (hC : C ≤ B) : OwnI w C v l := ownsRow_base h hC
theorem OwnI.nil (w : World) (B : Nat) : OwnI w B (.slice none 0 0) [] := World.ownsRow_nil _ _ _ _
/-- A row of numbers made whole. -/
theorem RowI.own {w : World} {B g n : Nat} {l : List Int} (h : RowI w g n (fun j => l.getD j 0)) (hl : l.length = n) (hB : B ≤ g) (hn : n ≤ 1099511627776) : OwnI w B (.slice (some ⟨g, 0, none⟩) n n) l := by
  obtain ⟨c, h1, h2, h3⟩ := id h
  unfold OwnI
  rw [hl]
  refine ⟨by rw [intsV_length, hl, Nat.mul_one], .inr ⟨g, n, c, rfl, hB, h1, Nat.le_refl _, by unfold maxLen; omega, by omega, ?_⟩⟩
  rw [Nat.mul_one]
  apply List.ext_getElem?
  intro i
  by_cases hi : i < n
  · rw [List.getElem?_take_of_lt hi, Array.getElem?_toList, h3 i hi]
    simp [intsV, List.getD, List.getElem?_eq_getElem (show i < l.length by omega)]
  · rw [List.getElem?_eq_none (by simp; omega), List.getElem?_eq_none (by rw [intsV_length]; omega)]
/-- A number stored into a block: the list there has it. -/
theorem OwnI.setB {w : World} {B : Nat} {v : Value} {l : List Int} (h : OwnI w B v l) (g k : Nat) (x : Int) : OwnI (w.setCell ⟨g, k, none⟩ (.int .i64 x)) B v (if v.ownBlock = some g then l.set k x else l) := by
  by_cases e : v.ownBlock = some g
  · rw [if_pos e]
    rcases h.2 with ⟨h1, _⟩ | ⟨g', cap, cur, h1, hg, hh, hnc, hcm, hcs, ht⟩
    · rw [h1] at e; cases e
    · rw [h1] at e
      obtain rfl : g' = g := by simpa [Value.ownBlock] using e
      unfold OwnI
      rw [List.length_set]
      refine ⟨by rw [intsV_length, List.length_set, Nat.mul_one], .inr ⟨g', cap, cur.setIfInBounds k (.int .i64 x), h1, hg, heap_set _ _ _ _ _ _ _ hh, hnc, hcm, by rw [Array.size_setIfInBounds]; exact hcs, ?_⟩⟩
      rw [Array.toList_setIfInBounds, List.take_set, ht]
      simp [intsV, List.map_set]
  · rw [if_neg e]
    exact h.keepB fun k' hk => heap_other _ _ _ _ _ fun e' => e (e' ▸ hk)
/-! ### own postings -/
/-- Postings as cells. -/
def poV : List Pt.Po → List Value → List Value
  | p :: d, v :: vs => .int .i64 p.doc :: v :: poV d vs
  | _, _ => []
theorem poV_length : ∀ {d : List Pt.Po} {vs : List Value}, vs.length = d.length → (poV d vs).length = d.length * 2
  | [], [], _ => rfl
  | _ :: _, [], h => by cases h
  | [], _ :: _, h => by cases h
  | p :: d, v :: vs, h => by
    simp only [poV, List.length_cons, poV_length (d := d) (vs := vs) (by simpa using h)]
    omega
theorem poV_d : ∀ {d : List Pt.Po} {vs : List Value}, vs.length = d.length → ∀ i (h : i < d.length), (poV d vs)[i * 2]? = some (.int .i64 d[i].doc)
  | [], _, _, i, h => absurd h (Nat.not_lt_zero i)
  | _ :: _, [], h, _, _ => by cases h
  | p :: d, v :: vs, h, 0, _ => rfl
  | p :: d, v :: vs, h, i + 1, hi => by
    rw [show (i + 1) * 2 = i * 2 + 1 + 1 by omega]
    exact poV_d (d := d) (vs := vs) (by simpa using h) i (by simpa using hi)
theorem poV_v : ∀ {d : List Pt.Po} {vs : List Value}, vs.length = d.length → ∀ i (h : i < vs.length), (poV d vs)[i * 2 + 1]? = some vs[i]
  | _, [], _, i, h => absurd h (Nat.not_lt_zero i)
  | [], _ :: _, h, _, _ => by cases h
  | p :: d, v :: vs, h, 0, _ => rfl
  | p :: d, v :: vs, h, i + 1, hi => by
    rw [show (i + 1) * 2 + 1 = i * 2 + 1 + 1 + 1 by omega]
    exact poV_v (d := d) (vs := vs) (by simpa using h) i (by simpa using hi)
theorem poV_snoc : ∀ {d : List Pt.Po} {vs : List Value}, vs.length = d.length → ∀ (p : Pt.Po) (v : Value), poV d vs ++ [.int .i64 p.doc, v] = poV (d ++ [p]) (vs ++ [v])
  | [], [], _, _, _ => rfl
  | _ :: _, [], h, _, _ => by cases h
  | [], _ :: _, h, _, _ => by cases h
  | q :: d, u :: vs, h, p, v => by
    simp only [poV, List.cons_append]
    rw [poV_snoc (d := d) (vs := vs) (by simpa using h) p v]
theorem poV_docs : ∀ {d e : List Pt.Po} {vs : List Value}, e.map Pt.Po.doc = d.map Pt.Po.doc → poV e vs = poV d vs
  | [], [], _, _ => rfl
  | _ :: _, [], _, h => by cases h
  | [], _ :: _, _, h => by cases h
  | p :: d, q :: e, [], _ => rfl
  | p :: d, q :: e, v :: vs, h => by
    obtain ⟨h1, h2⟩ := List.cons.inj h
    simp only [poV, h1]
    rw [poV_docs h2]
/-- Postings of the call's own, from block B on: the rows, and each one's places. -/
structure OwnP (w : World) (B : Nat) (v : Value) (d : List Pt.Po) (vs : List Value) : Prop where
  own : w.ownsRow B 40 2 v d.length (poV d vs)
  len : vs.length = d.length
  each : ∀ j (_ : j < d.length) (_ : j < vs.length), OwnI w B vs[j] d[j].ats
theorem OwnP.nil (w : World) (B : Nat) : OwnP w B (.slice none 0 0) [] [] := ⟨World.ownsRow_nil _ _ _ _, rfl, fun j h => absurd h (Nat.not_lt_zero j)⟩
theorem OwnP.opened {w : World} {B : Nat} {v : Value} {d : List Pt.Po} {vs : List Value} (h : OwnP w B v d vs) : ∃ g a cap, v = .slice a d.length cap ∧ d.length ≤ cap ∧ cap ≤ 9223372036854775807 ∧ (0 < d.length → a = some ⟨g, 0, none⟩ ∧ g < w.heap.size ∧ ∃ c : Array Value, w.heap[g]? = some (.cells c 40 (0, 0))) ∧ B ≤ g ∧ (∀ k, v.ownBlock = some k → k = g) ∧
    (∀ j (_ : j < d.length) (_ : j < vs.length), w.cell? ⟨g, j * 2, none⟩ = some (.int .i64 d[j].doc) ∧ w.cell? ⟨g, j * 2 + 1, none⟩ = some vs[j]) ∧ (0 < d.length → ∀ j, w.frozen? ⟨g, j, none⟩ = false) := by
  rcases h.own.2 with ⟨rfl, h0⟩ | ⟨g, cap, cur, rfl, hg, hh, hnc, hcp, hcs, htake⟩
  · exact ⟨B, none, 0, by rw [h0], by omega, by omega, fun h => by omega, Nat.le_refl _, fun k hk => (by cases hk), fun i hi => by omega, fun h => by omega⟩
  · have hown : w.ownsRow B 40 2 (.slice (some ⟨g, 0, none⟩) d.length cap) d.length (poV d vs) := h.own
    refine ⟨g, _, cap, rfl, hnc, by unfold maxLen at hcp; omega, fun _ => ⟨rfl, (hown.lt g rfl).2, cur, hh⟩, hg, fun k hk => by simpa [Value.ownBlock] using hk.symm, fun j hj hj2 => ?_, fun _ j => by simp [World.frozen?, hh]⟩
    have e : ∀ j u, (poV d vs)[j]? = some u → w.cell? ⟨g, j, none⟩ = some u := fun j u hj => by
      have h := hown.cells (g := g) rfl j u hj
      rw [Addr.add_lit, Nat.zero_add] at h
      exact h
    exact ⟨e _ _ (poV_d h.len j hj), e _ _ (poV_v h.len j hj2)⟩
theorem OwnP.po {w : World} {B : Nat} {v : Value} {d : List Pt.Po} {vs : List Value} (h : OwnP w B v d vs) : PoS (fun g => B ≤ g) w v d := by
  obtain ⟨g, a, cap, h1, h2, h3, h4, h5, _, h6, _⟩ := h.opened
  refine ⟨a, cap, h1, h2, h3, fun h0 => ⟨g, 0, (h4 h0).1, (h4 h0).2.1, h5, fun j hj => ?_⟩⟩
  obtain ⟨a1, a2⟩ := h6 j hj (by rw [h.len]; exact hj)
  rw [Nat.zero_add]
  exact ⟨a1, _, a2, (h.each j hj (by rw [h.len]; exact hj)).intF⟩
theorem OwnP.keepB {w w' : World} {B : Nat} {v : Value} {d : List Pt.Po} {vs : List Value} (h : OwnP w B v d vs) (e : ∀ k, B ≤ k → k < w.heap.size → w'.heap[k]? = w.heap[k]?) : OwnP w' B v d vs :=
  ⟨ownsRow_keep h.own fun k hk => e k (h.own.lt k hk).1 (h.own.lt k hk).2, h.len, fun j h1 h2 => (h.each j h1 h2).keepB fun k hk => e k (World.ownsRow.lt (h.each j h1 h2) k hk).1 (World.ownsRow.lt (h.each j h1 h2) k hk).2⟩
theorem OwnP.below {w w' : World} {B : Nat} {v : Value} {d : List Pt.Po} {vs : List Value} (h : OwnP w B v d vs) (hb : Below w.heap.size w w') : OwnP w' B v d vs := h.keepB fun k _ hk => hb.block k hk
theorem OwnP.base {w : World} {B C : Nat} {v : Value} {d : List Pt.Po} {vs : List Value} (h : OwnP w B v d vs) (hC : C ≤ B) : OwnP w C v d vs :=
  ⟨ownsRow_base h.own hC, h.len, fun j h1 h2 => (h.each j h1 h2).base hC⟩
theorem new_po (w : World) (c : Int) (va : Value) : ∀ j u, [Value.int .i64 c, va][j]? = some u → (w.alloc (.cells #[.int .i64 c, va] 40)).cell? ((⟨w.heap.size, 0, none⟩ : Addr).add j) = some u := by
  intro j u hj
  match j, hj with
  | 0, hj => simp at hj; subst hj; simp [Addr.add]
  | 1, hj => simp at hj; subst hj; simp [Addr.add]
/-- 'append(v, Post)' of one posting, which lies in a new block. -/
theorem wpList_pushP {ops : Array Oper} {rest : List Oper} {o : Oper} {a : Act} {Q : Exit → Act → World → Prop} {w : World} (hgd : o.guard = none) (s x : Operand)
    (ho : o.op = .call { callee := .builtin .append, args := #[s, x], argTypes := #[22, 22] })
    (B : Nat) (hB : B ≤ w.heap.size) (v : Value) (d : List Pt.Po) (vs : List Value) (c : Int) (va : Value) (ats : List Int) (hs : a.eval s = v) (h : OwnP w B v d vs) (hva : OwnI w B va ats) (hx : a.eval x = .slice (some ⟨w.heap.size, 0, none⟩) 1 1)
    (hb : d.length + 1 ≤ 1099511627776)
    (hk : ∀ v' w', OwnP w' B v' (d ++ [⟨c, ats⟩]) (vs ++ [va]) → Below B w w' → wpList Try.prog ops Q rest (a.put o.dst v') w') :
    wpList Try.prog ops Q (o :: rest) a (w.alloc (.cells #[.int .i64 c, va] 40)) := by
  obtain ⟨ii, hi, hz0, hz1, hz2⟩ := info_parts Try.infoPo
  have hlen := h.len
  have hone : ∀ u ∈ [Value.int .i64 c, va], u.oneCell' = true := by
    intro u hu
    simp only [List.mem_cons, List.mem_nil_iff, or_false] at hu
    rcases hu with rfl | rfl
    · rfl
    · exact ownsRow_cell' hva
  refine wpList_append_two _ hgd s x 22 ho B 40 ii _ 2 32 Try.underlying22 hi hz0 hz1 hz2 rfl (by decide) _ _ _ hs (h.own.alloc _) ⟨w.heap.size, 0, none⟩ 1 1 [.int .i64 c, va] hx rfl (new_po w c va) hone (by unfold maxLen; omega) (by omega) (by simp; omega) ?_
  intro v' w' h1 h2
  have h2' : Ap.Two (w.alloc (.cells #[.int .i64 c, va] 40)) w' v v' := h2
  have stay : ∀ u l, OwnI w B u l → OwnI w' B u l := fun u l hu => hu.keepB fun k hk => by
    obtain ⟨_, k1, c1, k2⟩ := ownsRow_kind hu k hk
    rw [h2'.drop.far k1]
    intro e
    obtain ⟨_, _, c2, k3⟩ := ownsRow_kind h.own k e
    exact kinds_ne k2 k3 (by decide) rfl
  refine hk v' w' ⟨?_, by simp [hlen], fun j j1 j2 => ?_⟩ ?_
  · rw [poV_snoc hlen ⟨c, ats⟩ va] at h1
    simpa using h1
  · by_cases e : j < d.length
    · rw [List.getElem_append_left e, List.getElem_append_left (by omega)]
      exact stay _ _ (h.each j e (by omega))
    · have e' : j = d.length := by simp at j1; omega
      subst e'
      have e3 : (vs ++ [va])[d.length]'j2 = va := by simp only [← hlen, List.getElem_append_right (Nat.le_refl _), Nat.sub_self, List.getElem_cons_zero]
      rw [e3, List.getElem_append_right (Nat.le_refl _)]
      simp only [Nat.sub_self, List.getElem_cons_zero]
      exact stay _ _ hva
  · have hg : (w.alloc (.cells #[.int .i64 c, va] 40)).grownBy w' v.ownBlock ∨ (w.alloc (.cells #[.int .i64 c, va] 40)).grownBy w' none := h2.elim (fun h => .inl h.2) fun h => .inr h.2
    rcases hg with hg | hg
    · exact ((Below.refl B w).alloc hB _).grown hg (by simp; omega) (fun j hj => (h.own.lt j hj).1)
    · exact ((Below.refl B w).alloc hB _).grown hg (by simp; omega) (fun j hj => by cases hj)
end Go.Proofs.Ytokdjaljeckghaa
