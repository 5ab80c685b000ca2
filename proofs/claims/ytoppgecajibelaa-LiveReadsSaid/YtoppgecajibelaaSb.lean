/-
  Lists of numbers in memory: the call's own, and such as lie anywhere; what an append leaves.
-/
import Derived.Test.YtoppgecajibelaaSa
import Derived.Test.YtoppgecajibelaaInv
import Derived.Test.YtoppgecajibelaaRefAll
import Derived.Deep.LoopGhost
import Derived.Deep.OwnRows
import Derived.BigQuiet
import Derived.Deep.RegionWith
import Derived.ArgAppend
import Derived.Maps.AppendAt
import Derived.Deep.AppendLies
import Derived.Deep.RegionHeld3
import Derived.Deep.RegionLaw
import Derived.BigRegion
import Derived.Laws.StructEq
import Derived.Laws.AppendOwnNone
import Derived.Laws.Rows
namespace Go.Proofs.Ytoppgecajibelaa
open Go.RowKit

theorem Try.infoI : (Try.prog.info? 3).map (fun i => (i.zero, i.size, i.bytes)) = some (some (.int .i64 0), 1, 8) := by kernel_rfl

/-- Numbers as cells. -/
def intsV (l : List Int) : List Value := l.map (fun c => .int .i64 c)
theorem intsV_snoc (l : List Int) (c : Int) : intsV l ++ [.int .i64 c] = intsV (l ++ [c]) := by simp [intsV]
theorem intsV_append (l r : List Int) : intsV l ++ intsV r = intsV (l ++ r) := by simp [intsV]
theorem intsV_length (l : List Int) : (intsV l).length = l.length := by simp [intsV]
/-- The slice v is the call's own, from block B on, and holds these numbers. -/
def OwnI (w : World) (B : Nat) (v : Value) (l : List Int) : Prop := w.ownsRow B 3 1 v l.length (intsV l)
/-- Behind an append of one number. -/
theorem ownI_push {w wr w1 : World} {B : Nat} {v v' : Value} {l : List Int} {c : Int} {o : Obj} (hB : B ≤ wr.heap.size) (h : OwnI wr B v l) (hb : Below B w wr)
    (h1 : w1.ownsRow B 3 1 v' (l.length + 1) (intsV l ++ [.int .i64 c])) (hg : (wr.alloc o).grownBy w1 v.ownBlock) :
    OwnI w1 B v' (l ++ [c]) ∧ Below B w w1 := by
  have hown : wr.ownsRow B 3 1 v l.length (intsV l) := h
  refine ⟨?_, (hb.alloc hB o).grown hg (by simp; omega) (fun j hj => (hown.lt j hj).1)⟩
  unfold OwnI
  rw [intsV_snoc] at h1
  simpa using h1
/-- An own slice, its cells told one by one. -/
theorem ownI_cells {w : World} {B : Nat} {v : Value} {l : List Int} (h : OwnI w B v l) : ∃ a cap, v = .slice a l.length cap ∧ (0 < l.length → ∃ g, a = some ⟨g, 0, none⟩ ∧ g < w.heap.size ∧ ∀ j (hj : j < l.length), w.cell? ⟨g, j, none⟩ = some (.int .i64 l[j])) := by
  have hown : w.ownsRow B 3 1 v l.length (intsV l) := h
  rcases h.2 with ⟨rfl, h0⟩ | ⟨g, cap, cur, rfl, hg, hh, hnc, hcp, hcs, htake⟩
  · exact ⟨none, 0, by rw [h0], fun h => by omega⟩
  · refine ⟨_, _, rfl, fun h => ⟨g, rfl, (hown.lt g rfl).2, fun j hj => ?_⟩⟩
    rw [hown.cellAt j (by omega)]
    simp [intsV, hj]

/-- The bits of a number, the lowest first, as numbers. -/
def bitsOf (V m : Nat) : List Int := (List.range m).map (fun j => ((V / 2 ^ j % 2 : Nat) : Int))
theorem bitsOf_length (V m : Nat) : (bitsOf V m).length = m := by simp [bitsOf]
theorem bitsOf_snoc (V m : Nat) : bitsOf V (m + 1) = bitsOf V m ++ [((V / 2 ^ m % 2 : Nat) : Int)] := by simp [bitsOf, List.range_succ]
theorem bitsOf_get (V m j : Nat) (h : j < (bitsOf V m).length) : (bitsOf V m)[j] = ((V / 2 ^ j % 2 : Nat) : Int) := by simp [bitsOf]
theorem bits_cells {w : World} {B V M : Nat} {v : Value} (h : OwnI w B v (bitsOf V M)) : ∃ a cap, v = .slice a M cap ∧ (0 < M → ∃ g, a = some ⟨g, 0, none⟩ ∧ g < w.heap.size ∧ ∀ j, j < M → w.cell? ⟨g, j, none⟩ = some (.int .i64 ((V / 2 ^ j % 2 : Nat) : Int))) := by
  obtain ⟨a, cap, hv, hc⟩ := ownI_cells h
  have hl := bitsOf_length V M
  refine ⟨a, cap, by rw [hv, hl], fun h0 => ?_⟩
  obtain ⟨g, h1, h2, h3⟩ := hc (by omega)
  refine ⟨g, h1, h2, fun j hj => ?_⟩
  rw [h3 j (by omega), bitsOf_get]
theorem mod_step (Y c : Nat) : Y % 2 ^ (c + 1) = Y % 2 ^ c + 2 ^ c * (Y / 2 ^ c % 2) := Nat.mod_pow_succ
end Go.Proofs.Ytoppgecajibelaa
namespace Go.Proofs.Ytoppgecajibelaa
open Go.RowKit

/-- The value v is a slice of these numbers. -/
def IntS (w : World) (v : Value) (xs : List Int) : Prop :=
  ∃ a cap, v = .slice a xs.length cap ∧ xs.length ≤ cap ∧ cap ≤ 9223372036854775807 ∧ (0 < xs.length → ∃ g o, a = some ⟨g, o, none⟩ ∧ g < w.heap.size ∧ ∀ j (_ : j < xs.length), w.cell? ⟨g, o + j, none⟩ = some (.int .i64 xs[j]))
theorem IntS.below {w w' : World} {B : Nat} {v : Value} {xs : List Int} (h : IntS w v xs) (hb : Below B w w') (hB : w.heap.size ≤ B) : IntS w' v xs := by
  obtain ⟨a, cap, h1, h2, h3, h4⟩ := h
  refine ⟨a, cap, h1, h2, h3, fun h0 => ?_⟩
  obtain ⟨g, o, h5, h6, h7⟩ := h4 h0
  exact ⟨g, o, h5, Nat.lt_of_lt_of_le h6 hb.size, fun j hj => (hb.cell (p := ⟨g, o + j, none⟩) (Nat.lt_of_lt_of_le h6 hB)).trans (h7 j hj)⟩
theorem belowN {B : Nat} {a w : World} (h : Below B a w) (n : Nat) : Below B a (w.drewN n) := h.trans ⟨rfl, rfl, rfl, Nat.le_refl _, fun _ _ => rfl⟩
theorem take_eq_snoc {xs ys : List Int} {k : Nat} (h1 : k < xs.length) (h2 : k < ys.length) (h : xs.take k = ys.take k) (e : xs[k] = ys[k]) : xs.take (k + 1) = ys.take (k + 1) := by
  rw [List.take_succ_eq_append_getElem h1, List.take_succ_eq_append_getElem h2, h, e]

end Go.Proofs.Ytoppgecajibelaa
namespace Go.Proofs.Ytoppgecajibelaa
open Go.RowKit

theorem OwnI.ints {w : World} {B : Nat} {v : Value} {l : List Int} (h : OwnI w B v l) (_ : l.length ≤ 140737488355328) : IntS w v l := by
  rcases h.2 with ⟨rfl, h0⟩ | ⟨g, cap, cur, rfl, hg, hh, hnc, hcp, hcs, htake⟩
  · exact ⟨none, 0, by rw [h0], by omega, by omega, fun h => by omega⟩
  · have hown : w.ownsRow B 3 1 (.slice (some ⟨g, 0, none⟩) l.length cap) l.length (intsV l) := h
    refine ⟨_, cap, rfl, hnc, by unfold maxLen at hcp; omega, fun h => ⟨g, 0, rfl, (hown.lt g rfl).2, fun j hj => ?_⟩⟩
    rw [Nat.zero_add, hown.cellAt j (by omega)]
    simp [intsV, hj]
/-- Behind an append of numbers that lie elsewhere. -/
theorem ownI_pushAll {w wr w1 : World} {B : Nat} {v v' : Value} {l r : List Int} (hB : B ≤ wr.heap.size) (h : OwnI wr B v l) (hb : Below B w wr)
    (h1 : w1.ownsRow B 3 1 v' (l.length + r.length) (intsV l ++ intsV r)) (hg : wr.grownBy w1 v.ownBlock) :
    OwnI w1 B v' (l ++ r) ∧ Below B w w1 := by
  have hown : wr.ownsRow B 3 1 v l.length (intsV l) := h
  refine ⟨?_, hb.grown hg hB (fun j hj => (hown.lt j hj).1)⟩
  unfold OwnI
  rw [intsV_append] at h1
  simpa using h1
theorem OwnI.keep {w w' : World} {B B' : Nat} {v : Value} {l : List Int} (h : OwnI w B v l) (hb : Below B' w w') (hB : w.heap.size ≤ B') : OwnI w' B v l := by
  have hown : w.ownsRow B 3 1 v l.length (intsV l) := h
  refine ⟨h.1, ?_⟩
  rcases h.2 with ⟨h1, h2⟩ | ⟨g, cap, cur, h1, hg, hh, hnc, hcp, hcs, htake⟩
  · exact .inl ⟨h1, h2⟩
  · have hlt : g < w.heap.size := (hown.lt g (by rw [h1]; rfl)).2
    exact .inr ⟨g, cap, cur, h1, hg, (hb.block g (Nat.lt_of_lt_of_le hlt hB)).trans hh, hnc, hcp, hcs, htake⟩
theorem chain_d {w w2 w3 : World} (h : Below w.heap.size w w2) (hb : Below w2.drew.heap.size w2.drew w3) : Below w.heap.size w w3 := by
  have h1 : Below w2.heap.size w2 w3 := (Below.refl w2.heap.size w2).drew.trans hb
  exact h.trans (h1.mono h.size)
theorem news_ok {w' : World} {n : Nat} {lb : List Nat} {g : Nat} (hl : lb.length = n) (h : ∀ j (_ : j < n), w'.cell? ⟨g, j, none⟩ = some (.int .i64 ((lb.getD j 0 : Nat) : Int))) :
    ∀ j u, (intsV (lb.map Int.ofNat))[j]? = some u → w'.cell? ((⟨g, 0, none⟩ : Addr).add j) = some u := by
  intro j u hj
  have hjn : j < lb.length := by
    have := (List.getElem?_eq_some_iff.1 hj).1
    simpa [intsV] using this
  rw [Addr.add_lit, Nat.zero_add, h j (by omega), List.getD, List.getElem?_eq_getElem hjn]
  simp [intsV, hjn] at hj
  rw [← hj]
  rfl
/-- What is answered of numbers read. -/
def ReadPost (B : Nat) (w0 : World) (l : List Nat) (z : Nat) (x : Int) (e : Ending) (w' : World) : Prop :=
  ∃ v, e = .returned (.tuple #[v, .int .i64 (z : Int), .int .i64 x]) ∧ OwnI w' B v (l.map Int.ofNat) ∧ Below B w0 w'
theorem long_two (wm : Nat) : (wm + 7) / 8 = if 0 < wm % 8 then wm / 8 + 1 else wm / 8 := by split <;> omega
end Go.Proofs.Ytoppgecajibelaa
namespace Go.Proofs.Ytoppgecajibelaa
open Go.RowKit
theorem blk_cell {w w' : World} {a : Addr} (h : w'.heap[a.block]? = w.heap[a.block]?) : w'.cell? a = w.cell? a := World.cell?_of_block (w := w) h
/-- A slice of numbers in a block of a kind. -/
def IntF (F : Nat → Prop) (w : World) (v : Value) (l : List Int) : Prop :=
  ∃ a cap, v = .slice a l.length cap ∧ l.length ≤ cap ∧ cap ≤ 9223372036854775807 ∧ (0 < l.length → ∃ g o, a = some ⟨g, o, none⟩ ∧ g < w.heap.size ∧ F g ∧ ∀ j (_ : j < l.length), w.cell? ⟨g, o + j, none⟩ = some (.int .i64 l[j]))
theorem IntF.keep {F : Nat → Prop} {w w' : World} {v : Value} {l : List Int} (h : IntF F w v l) (hs : w.heap.size ≤ w'.heap.size) (e : ∀ g, F g → g < w.heap.size → w'.heap[g]? = w.heap[g]?) : IntF F w' v l := by
  obtain ⟨a, cap, h1, h2, h3, h4⟩ := h
  refine ⟨a, cap, h1, h2, h3, fun h0 => ?_⟩
  obtain ⟨g, o, h5, h6, h7, h8⟩ := h4 h0
  have hb := e g h7 h6
  exact ⟨g, o, h5, Nat.lt_of_lt_of_le h6 hs, h7, fun j hj => (blk_cell hb).trans (h8 j hj)⟩
theorem IntF.below {F : Nat → Prop} {w w' : World} {v : Value} {l : List Int} (h : IntF F w v l) (hb : Below w.heap.size w w') : IntF F w' v l := h.keep hb.size fun g _ hg => hb.block g hg
theorem IntF.wide {F G : Nat → Prop} {w : World} {v : Value} {l : List Int} (h : IntF F w v l) (hm : ∀ g, g < w.heap.size → F g → G g) : IntF G w v l := by
  obtain ⟨a, cap, h1, h2, h3, h4⟩ := h
  refine ⟨a, cap, h1, h2, h3, fun h0 => ?_⟩
  obtain ⟨g, o, h5, h6, h7, h8⟩ := h4 h0
  exact ⟨g, o, h5, h6, hm g h6 h7, h8⟩
theorem IntF.ints {F : Nat → Prop} {w : World} {v : Value} {l : List Int} (h : IntF F w v l) : IntS w v l := by
  obtain ⟨a, cap, h1, h2, h3, h4⟩ := h
  refine ⟨a, cap, h1, h2, h3, fun h0 => ?_⟩
  obtain ⟨g, o, h5, h6, _, h8⟩ := h4 h0
  exact ⟨g, o, h5, h6, h8⟩
theorem IntS.intF {w : World} {v : Value} {l : List Int} (h : IntS w v l) : IntF (fun _ => True) w v l := by
  obtain ⟨a, cap, h1, h2, h3, h4⟩ := h
  refine ⟨a, cap, h1, h2, h3, fun h0 => ?_⟩
  obtain ⟨g, o, h5, h6, h8⟩ := h4 h0
  exact ⟨g, o, h5, h6, trivial, h8⟩
end Go.Proofs.Ytoppgecajibelaa
namespace Go.Proofs.Ytoppgecajibelaa
open Go.RowKit

theorem heap_other (w : World) (b i k : Nat) (v : Value) (h : k ≠ b) : (w.setCell ⟨b, i, none⟩ v).heap[k]? = w.heap[k]? :=
  Below.heap_setCell _ _ _ _ (by first | exact h | exact fun e => h e.symm | exact fun e => h e)
/-- Nothing but what F says has turned of what lay there. -/
structure KeptF (F : Nat → Prop) (w w' : World) : Prop where
  os : w'.os = w.os
  tape : w'.tape = w.tape
  output : w'.output = w.output
  size : w.heap.size ≤ w'.heap.size
  block : ∀ k, k < w.heap.size → ¬ F k → w'.heap[k]? = w.heap[k]?
theorem KeptF.refl (F : Nat → Prop) (w : World) : KeptF F w w := ⟨rfl, rfl, rfl, Nat.le_refl _, fun _ _ _ => rfl⟩
theorem KeptF.trans {F : Nat → Prop} {w w' w'' : World} (h : KeptF F w w') (k : KeptF F w' w'') : KeptF F w w'' :=
  ⟨k.os.trans h.os, k.tape.trans h.tape, k.output.trans h.output, Nat.le_trans h.size k.size, fun i hi hf => (k.block i (Nat.lt_of_lt_of_le hi h.size) hf).trans (h.block i hi hf)⟩
theorem KeptF.mono {F G : Nat → Prop} {w w' : World} (h : KeptF F w w') (hm : ∀ k, k < w.heap.size → F k → G k) : KeptF G w w' :=
  ⟨h.os, h.tape, h.output, h.size, fun i hi hf => h.block i hi (fun hF => hf (hm i hi hF))⟩
theorem KeptF.of_below {F : Nat → Prop} {w w' : World} (h : Below w.heap.size w w') : KeptF F w w' := ⟨h.os, h.tape, h.output, h.size, fun k hk _ => h.block k hk⟩
theorem KeptF.set {F : Nat → Prop} {w w' : World} (h : KeptF F w w') (b i : Nat) (hb : F b) (v : Value) : KeptF F w (w'.setCell ⟨b, i, none⟩ v) :=
  h.trans ⟨rfl, rfl, rfl, by simp [World.setCell], fun k _ hk => heap_other _ _ _ _ _ (fun e => hk (e ▸ hb))⟩
theorem KeptF.drew {F : Nat → Prop} {w w' : World} (h : KeptF F w w') : KeptF F w w'.drew := h.trans ⟨rfl, rfl, rfl, Nat.le_refl _, fun _ _ _ => rfl⟩
theorem KeptF.below {F : Nat → Prop} {B : Nat} {w0 w w' : World} (h : Below B w0 w) (k : KeptF F w w') (hF : ∀ k, F k → B ≤ k) (hB : B ≤ w.heap.size) : Below B w0 w' :=
  h.trans ⟨k.os, k.tape, k.output, k.size, fun i hi => k.block i (by omega) (fun hf => by have := hF i hf; omega)⟩

/-- A list that lies where nothing has turned. -/
theorem ownsRow_keep {w w' : World} {B : Nat} {t : TypeId} {z : Nat} {v : Value} {n : Nat} {xs : List Value} (h : w.ownsRow B t z v n xs) (e : ∀ k, v.ownBlock = some k → w'.heap[k]? = w.heap[k]?) : w'.ownsRow B t z v n xs := by
  refine ⟨h.1, ?_⟩
  rcases h.2 with h1 | ⟨g, cap, cur, rfl, hg, hh, hr⟩
  · exact .inl h1
  · exact .inr ⟨g, cap, cur, rfl, hg, (e g rfl).trans hh, hr⟩
theorem ownsRow_base {w : World} {B C : Nat} {t : TypeId} {z : Nat} {v : Value} {n : Nat} {xs : List Value} (h : w.ownsRow B t z v n xs) (hC : C ≤ B) : w.ownsRow C t z v n xs := by
  refine ⟨h.1, ?_⟩
  rcases h.2 with h1 | ⟨g, cap, cur, rfl, hg, hh, hr⟩
  · exact .inl h1
  · exact .inr ⟨g, cap, cur, rfl, Nat.le_trans hC hg, hh, hr⟩
section
variable {P : Program} (w : World)
/-- append onto an own row: in place, and nothing else turns; or into a new block, and nothing old turns at all. -/
theorem run_append_two (base : Nat) (t ty e : TypeId) (i : TypeInfo) (z : Value) (size bytes : Nat) (ht : P.underlying t = some (.slice e)) (hi : P.info? e = some i) (hz : i.zero = some z)
    (hsize : i.size = size) (hby : i.bytes = bytes) (hzs : z.cells.size = size) (hsz : 0 < size)
    (v : Value) (n : Nat) (xs : List Value) (hown : w.ownsRow base e size v n xs)
    (a : Addr) (m c : Nat) (news : List Value) (hl : news.length = m * size) (hnews : ∀ j u, news[j]? = some u → w.cell? (a.add j) = some u) (h1 : ∀ u ∈ news, u.oneCell' = true)
    (h63 : n + m ≤ maxLen) (hbytes : (n + m) * bytes ≤ 140737488355328) (hbase : base ≤ w.heap.size) :
    ∃ v' w', (Builtin.append_ #[t, t] ty #[v, .slice (some a) m c]).run P w = .ok v' w' ∧ w'.ownsRow base e size v' (n + m) (xs ++ news) ∧
      ((v'.ownBlock = v.ownBlock ∧ w.grownBy w' v.ownBlock) ∨ ((∀ b, v'.ownBlock = some b → w.heap.size ≤ b) ∧ w.grownBy w' none)) := by
  obtain ⟨v', w', hr, h2, h3, _, h5⟩ := run_append_own_at (P := P) w base t ty e i z size bytes ht hi hz hsize hby hzs hsz v n xs hown a m c news hl hnews h1 h63 hbytes hbase
  rcases hown.2 with ⟨rfl, rfl⟩ | ⟨g, cap, cur, rfl, hbg, hg, hnc, hcm, hcs, htake⟩
  · refine ⟨v', w', hr, h2, .inr ⟨fun b hb => ?_, h3⟩⟩
    rcases h5 with h5 | h5
    · rw [h5] at hb; cases hb
    · rw [h5] at hb; cases hb; exact Nat.le_refl _
  · by_cases hroom : n + m ≤ cap
    · have hfit : n * i.size + news.length ≤ cur.size := by rw [hl, hcs, hsize, ← Nat.add_mul]; exact Nat.mul_le_mul_right _ hroom
      have hr2 := run_append_room (P := P) w t ty e i ht hi g n cap cur hg a m c news (by rw [hsize]; exact hl) hnews h1 hroom hfit
      rw [hr] at hr2
      injection hr2 with e1 e2
      exact ⟨v', w', hr, h2, .inl ⟨by rw [e1]; rfl, h3⟩⟩
    · have holds : ∀ j u, xs[j]? = some u → w.cell? ((⟨g, 0, none⟩ : Addr).add j) = some u := hown.cells (g := g) rfl
      obtain ⟨v2, w2, hr2, h6, h7⟩ := run_append_arg_grows (P := P) w t ty e i z size bytes ht hi hz hsize hby hzs hsz ⟨g, 0, none⟩ n cap xs hown.1 holds a m c news hl hnews (by omega) h63 hbytes
      exact ⟨v2, w2, hr2, ownsRow_base h6 hbase, .inr ⟨fun b hb => (h6.lt b hb).1, h7⟩⟩
theorem wpList_append_two {ops : Array Oper} {rest : List Oper} {o : Oper} {a : Act} {Q : Exit → Act → World → Prop} (hgd : o.guard = none) (s x : Operand) (t : TypeId)
    (ho : o.op = .call { callee := .builtin .append, args := #[s, x], argTypes := #[t, t] })
    (base : Nat) (e : TypeId) (i : TypeInfo) (z : Value) (size bytes : Nat) (ht : P.underlying t = some (.slice e)) (hi : P.info? e = some i) (hz : i.zero = some z)
    (hsize : i.size = size) (hby : i.bytes = bytes) (hzs : z.cells.size = size) (hsz : 0 < size)
    (v : Value) (n : Nat) (xs : List Value) (hs : a.eval s = v) (hown : w.ownsRow base e size v n xs)
    (ad : Addr) (m c : Nat) (news : List Value) (hx : a.eval x = .slice (some ad) m c) (hl : news.length = m * size) (hnews : ∀ j u, news[j]? = some u → w.cell? (ad.add j) = some u) (h1 : ∀ u ∈ news, u.oneCell' = true)
    (h63 : n + m ≤ maxLen) (hbytes : (n + m) * bytes ≤ 140737488355328) (hbase : base ≤ w.heap.size)
    (h : ∀ v' w', w'.ownsRow base e size v' (n + m) (xs ++ news) → ((v'.ownBlock = v.ownBlock ∧ w.grownBy w' v.ownBlock) ∨ ((∀ b, v'.ownBlock = some b → w.heap.size ≤ b) ∧ w.grownBy w' none)) → wpList P ops Q rest (a.put o.dst v') w') :
    wpList P ops Q (o :: rest) a w := by
  refine wpList_plain hgd fun K hK => ?_
  obtain ⟨v', w', hr, h2, h3⟩ := run_append_two (P := P) w base t o.type e i z size bytes ht hi hz hsize hby hzs hsz v n xs hown ad m c news hl hnews h1 h63 hbytes hbase
  unfold Oper.wp execOp
  simp only [ho, resolve, invoke, builtin, Sem.run_bind, Sem.run_pure, Result.andThen_ok, List.map_toArray, List.map_cons, List.map_nil, hs, hx, hr]
  exact hK _ _ (h v' w' h2 h3)
end

namespace Ap
/-- What an append may have done: in place, or in a new block. -/
def Two (w w' : World) (v v' : Value) : Prop := (v'.ownBlock = v.ownBlock ∧ w.grownBy w' v.ownBlock) ∨ ((∀ b, v'.ownBlock = some b → w.heap.size ≤ b) ∧ w.grownBy w' none)
theorem Two.far {w w' : World} {v v' : Value} (h : Two w w' v v') {k : Nat} (hk : k < w.heap.size) (hv : v.ownBlock ≠ some k) : w'.heap[k]? = w.heap[k]? := by
  rcases h with ⟨_, h⟩ | ⟨_, h⟩
  · exact h.block k hk (fun e => hv e.symm)
  · exact h.block k hk (fun e => by cases e)
theorem Two.at {w w' : World} {v v' : Value} (h : Two w w' v v') {b : Nat} (hb : v'.ownBlock = some b) : v.ownBlock = some b ∨ w.heap.size ≤ b := by
  rcases h with ⟨h, _⟩ | ⟨h, _⟩
  · exact .inl (h ▸ hb)
  · exact .inr (h b hb)
theorem Two.size {w w' : World} {v v' : Value} (h : Two w w' v v') : w.heap.size ≤ w'.heap.size := by
  rcases h with ⟨_, h⟩ | ⟨_, h⟩ <;> exact h.size
theorem Two.rest {w w' : World} {v v' : Value} (h : Two w w' v v') : w'.os = w.os ∧ w'.tape = w.tape ∧ w'.output = w.output := by
  rcases h with ⟨_, h⟩ | ⟨_, h⟩ <;> exact ⟨h.os, h.tape, h.output⟩
theorem Two.drop {w w' : World} {v v' : Value} {o : Obj} (h : Two (w.alloc o) w' v v') : Two w w' v v' := by
  rcases h with ⟨h1, h⟩ | ⟨h1, h⟩
  · exact .inl ⟨h1, h.os, h.tape, h.output, Nat.le_trans (by simp) h.size, fun k hk hv => (h.block k (by simp; omega) hv).trans (Go.Deep.blk_alloc_lt w _ _ hk)⟩
  · exact .inr ⟨fun b hb => Nat.le_trans (by simp) (h1 b hb), h.os, h.tape, h.output, Nat.le_trans (by simp) h.size, fun k hk hv => (h.block k (by simp; omega) hv).trans (Go.Deep.blk_alloc_lt w _ _ hk)⟩
end Ap
theorem Try.infoIs : (Try.prog.info? 38).map (fun i => (i.zero, i.size, i.bytes)) = some (some (.slice none 0 0), 1, 24) := by kernel_rfl
theorem heap_set (w : World) (g k : Nat) (v : Value) (cur : Array Value) (t : TypeId) (fz : Nat × Nat) (h : w.heap[g]? = some (.cells cur t fz)) : (w.setCell ⟨g, k, none⟩ v).heap[g]? = some (.cells (cur.setIfInBounds k v) t fz) := by
  simp [World.setCell, Array.getElem?_modify, h]
theorem kinds_ne {w : World} {g k : Nat} {c c' : Array Value} {t t' : TypeId} {fz fz' : Nat × Nat} (h : w.heap[g]? = some (.cells c t fz)) (h' : w.heap[k]? = some (.cells c' t' fz')) (ht : t ≠ t') : g ≠ k := by
  rintro rfl
  rw [h] at h'
  injection h' with h'
  injection h' with _ h2
  exact ht h2
/-! ### own numbers -/
theorem ownsRow_kind {w : World} {B : Nat} {t : TypeId} {z : Nat} {v : Value} {n : Nat} {xs : List Value} (h : w.ownsRow B t z v n xs) : ∀ g, v.ownBlock = some g → B ≤ g ∧ g < w.heap.size ∧ ∃ c : Array Value, w.heap[g]? = some (.cells c t (0, 0)) := by
  intro g hv
  refine ⟨(World.ownsRow.lt h g hv).1, (World.ownsRow.lt h g hv).2, ?_⟩
  rcases h.2 with ⟨h1, _⟩ | ⟨g', cap, cur, h1, hg, hh, _⟩
  · rw [h1] at hv; cases hv
  · rw [h1] at hv
    obtain rfl : g' = g := by simpa [Value.ownBlock] using hv
    exact ⟨_, hh⟩
theorem ownsRow_cell' {w : World} {B : Nat} {t : TypeId} {z : Nat} {v : Value} {n : Nat} {xs : List Value} (h : w.ownsRow B t z v n xs) : v.oneCell' = true := by
  rcases h.2 with ⟨rfl, _⟩ | ⟨g, cap, cur, rfl, _⟩ <;> rfl
theorem OwnI.opened {w : World} {B : Nat} {v : Value} {l : List Int} (h : OwnI w B v l) : ∃ g a cap, v = .slice a l.length cap ∧ l.length ≤ cap ∧ cap ≤ 9223372036854775807 ∧ (0 < l.length → a = some ⟨g, 0, none⟩ ∧ g < w.heap.size) ∧ B ≤ g ∧ (∀ k, v.ownBlock = some k → k = g) ∧
    (∀ j (_ : j < l.length), w.cell? ⟨g, j, none⟩ = some (.int .i64 l[j])) ∧ (0 < l.length → ∀ j, w.frozen? ⟨g, j, none⟩ = false) := by
  rcases h.2 with ⟨rfl, h0⟩ | ⟨g, cap, cur, rfl, hg, hh, hnc, hcp, hcs, htake⟩
  · exact ⟨B, none, 0, by rw [h0], by omega, by omega, fun h => by omega, Nat.le_refl _, fun k hk => (by cases hk), fun i hi => by omega, fun h => by omega⟩
  · have hown : w.ownsRow B 3 1 (.slice (some ⟨g, 0, none⟩) l.length cap) l.length (intsV l) := h
    refine ⟨g, _, cap, rfl, hnc, by unfold maxLen at hcp; omega, fun _ => ⟨rfl, (hown.lt g rfl).2⟩, hg, fun k hk => by simpa [Value.ownBlock] using hk.symm, fun j hj => ?_, fun _ j => by simp [World.frozen?, hh]⟩
    rw [hown.cellAt j (by omega)]
    simp [intsV, hj]
theorem OwnI.intF {w : World} {B : Nat} {v : Value} {l : List Int} (h : OwnI w B v l) : IntF (fun g => B ≤ g) w v l := by
  obtain ⟨g, a, cap, h1, h2, h3, h4, h5, _, h6, _⟩ := h.opened
  exact ⟨a, cap, h1, h2, h3, fun h0 => ⟨g, 0, (h4 h0).1, (h4 h0).2, h5, fun j hj => by rw [Nat.zero_add]; exact h6 j hj⟩⟩
theorem OwnI.keepB {w w' : World} {B : Nat} {v : Value} {l : List Int} (h : OwnI w B v l) (e : ∀ k, v.ownBlock = some k → w'.heap[k]? = w.heap[k]?) : OwnI w' B v l := ownsRow_keep h e
theorem OwnI.base {w : World} {B C : Nat} {v : Value} {l : List Int} (h : OwnI w B v l) (hC : C ≤ B) : OwnI w C v l := ownsRow_base h hC
theorem OwnI.nil (w : World) (B : Nat) : OwnI w B (.slice none 0 0) [] := World.ownsRow_nil _ _ _ _
/-- A number stored into a block: the list there has it. -/
theorem OwnI.setB {w : World} {B : Nat} {v : Value} {l : List Int} (h : OwnI w B v l) (g k : Nat) (x : Int) : OwnI (w.setCell ⟨g, k, none⟩ (.int .i64 x)) B v (if v.ownBlock = some g then l.set k x else l) := by
  by_cases e : v.ownBlock = some g
  · rw [if_pos e]
    rcases h.2 with ⟨h1, _⟩ | ⟨g', cap, cur, h1, hg, hh, hnc, hcm, hcs, ht⟩
    · rw [h1] at e; cases e
    · rw [h1] at e
      obtain rfl : g' = g := by simpa [Value.ownBlock] using e
      unfold OwnI
      rw [List.length_set]
      refine ⟨by rw [intsV_length, List.length_set, Nat.mul_one], .inr ⟨g', cap, cur.setIfInBounds k (.int .i64 x), h1, hg, heap_set _ _ _ _ _ _ _ hh, hnc, hcm, by rw [Array.size_setIfInBounds]; exact hcs, ?_⟩⟩
      rw [Array.toList_setIfInBounds, List.take_set, ht]
      simp [intsV, List.map_set]
  · rw [if_neg e]
    exact h.keepB fun k' hk => heap_other _ _ _ _ _ fun e' => e (e' ▸ hk)
end Go.Proofs.Ytoppgecajibelaa
namespace Go.Proofs.Ytoppgecajibelaa
open Go.RowKit
theorem intsV_one (l : List Int) : ∀ u ∈ intsV l, u.oneCell' = true := by
  intro u hu
  obtain ⟨x, _, rfl⟩ := List.mem_map.1 hu
  rfl
/-- 'append(v, xs...)' onto numbers of the call's own. -/
theorem run_appendI {F : Nat → Prop} (w : World) (B : Nat) (hB : B ≤ w.heap.size) (v x : Value) (l r : List Int) (h : OwnI w B v l) (hx : IntF F w x r) (hb : l.length + r.length ≤ 17179869184) :
    ∃ v' w', (Builtin.append_ #[38, 38] 38 #[v, x]).run Try.prog w = .ok v' w' ∧ OwnI w' B v' (l ++ r) ∧ Below B w w' ∧ (∀ k, k < w.heap.size → v.ownBlock ≠ some k → w'.heap[k]? = w.heap[k]?) := by
  obtain ⟨ii, hi, hz0, hz1, hz2⟩ := info_parts Try.infoI
  obtain ⟨ax, cx, rfl, x1, x2, x3⟩ := hx
  have hown : w.ownsRow B 3 1 v l.length (intsV l) := h
  cases ax with
  | none =>
    have h0 : r = [] := by
      rcases Nat.eq_zero_or_pos r.length with h0 | h0
      · exact List.length_eq_zero_iff.1 h0
      · obtain ⟨g, o, q, _⟩ := x3 h0
        cases q
    subst h0
    refine ⟨v, w, ?_, by rw [List.append_nil]; exact h, Below.refl _ _, fun _ _ _ => rfl⟩
    rcases hown.2 with ⟨rfl, e0⟩ | ⟨g, cap, cur, rfl, _, _, hnc, _⟩
    · simp [Builtin.append_, run_underlying Try.underlying38, sizeOf, typeInfo, hi, Builtin.lenOf, Builtin.firstCells]
    · simp [Builtin.append_, run_underlying Try.underlying38, sizeOf, typeInfo, hi, Builtin.lenOf, Builtin.firstCells, hnc, storeCells]
  | some ad =>
    have hnews : ∀ j u, (intsV r)[j]? = some u → w.cell? (ad.add j) = some u := by
      intro j u hu
      have hj : j < r.length := by
        have := (List.getElem?_eq_some_iff.1 hu).1
        rwa [intsV_length] at this
      obtain ⟨g, o, q, _, _, x4⟩ := x3 (by omega)
      cases q
      rw [Addr.add_lit, x4 j hj]
      simp [intsV, hj] at hu
      rw [hu]
    obtain ⟨v', w', hr, h2, h3, _, h5⟩ := run_append_own_at (P := Try.prog) w B 38 38 3 ii (.int .i64 0) 1 8 Try.underlying38 hi hz0 hz1 hz2 rfl (by decide) v l.length (intsV l) hown ad r.length cx (intsV r) (by rw [intsV_length, Nat.mul_one]) hnews (intsV_one r) (by unfold maxLen; omega) (by omega) hB
    refine ⟨v', w', hr, ?_, ?_, ?_⟩
    · unfold OwnI
      rw [intsV_append] at h2
      simpa using h2
    · exact (Below.refl B w).grown h3 hB (fun j hj => (hown.lt j hj).1)
    · exact fun k hk hv => h3.block k hk (fun e => hv e.symm)
section
variable {ops : Array Oper} {rest : List Oper} {o : Oper} {a : Act}
/-- The same at an operation of a walk, and at a step of a region that draws its order. -/
theorem wp_appendI {K : Act → World → Prop} {Q : Exit → Act → World → Prop} {F : Nat → Prop} (w : World) (s x : Operand) (ty : o.type = 38)
    (ho : o.op = .call { callee := .builtin .append, args := #[s, x], argTypes := #[38, 38] }) (B : Nat) (hB : B ≤ w.heap.size) (v u : Value) (l r : List Int) (hs : a.eval s = v) (hx : a.eval x = u) (h : OwnI w B v l) (hr : IntF F w u r) (hb : l.length + r.length ≤ 17179869184)
    (hk : ∀ v' w', OwnI w' B v' (l ++ r) → Below B w w' → (∀ k, k < w.heap.size → v.ownBlock ≠ some k → w'.heap[k]? = w.heap[k]?) → K (a.put o.dst v') w') : o.wp Try.prog a w K Q := by
  obtain ⟨v', w', h1, h2, h3, h4⟩ := run_appendI w B hB v u l r h hr hb
  unfold Oper.wp execOp
  simp only [ho, resolve, invoke, builtin, Sem.run_bind, Sem.run_pure, Result.andThen_ok, List.map_toArray, List.map_cons, List.map_nil, hs, hx, ty, h1]
  exact hk v' w' h2 h3 h4
theorem wpList_appendI {Q : Exit → Act → World → Prop} {F : Nat → Prop} {w : World} (hgd : o.guard = none) (s x : Operand) (ty : o.type = 38)
    (ho : o.op = .call { callee := .builtin .append, args := #[s, x], argTypes := #[38, 38] }) (B : Nat) (hB : B ≤ w.heap.size) (v u : Value) (l r : List Int) (hs : a.eval s = v) (hx : a.eval x = u) (h : OwnI w B v l) (hr : IntF F w u r) (hb : l.length + r.length ≤ 17179869184)
    (hk : ∀ v' w', OwnI w' B v' (l ++ r) → Below B w w' → (∀ k, k < w.heap.size → v.ownBlock ≠ some k → w'.heap[k]? = w.heap[k]?) → wpList Try.prog ops Q rest (a.put o.dst v') w') : wpList Try.prog ops Q (o :: rest) a w :=
  wpList_plain hgd fun _ hK => wp_appendI w s x ty ho B hB v u l r hs hx h hr hb fun v' w' h2 h3 h4 => hK _ _ (hk v' w' h2 h3 h4)
theorem step_appendI {K : Act → World → Prop} {Q : Exit → Act → World → Prop} {E : Prop} {F : Nat → Prop} (w : World) (hgd : o.guard = none) (s x : Operand) (ty : o.type = 38)
    (ho : o.op = .call { callee := .builtin .append, args := #[s, x], argTypes := #[38, 38] }) (B : Nat) (hB : B ≤ w.heap.size) (v u : Value) (l r : List Int) (hs : a.eval s = v) (hx : a.eval x = u) (h : OwnI w B v l) (hr : IntF F w u r) (hb : l.length + r.length ≤ 17179869184)
    (hk : ∀ v' w', OwnI w' B v' (l ++ r) → Below B w w' → (∀ k, k < w.heap.size → v.ownBlock ≠ some k → w'.heap[k]? = w.heap[k]?) → K (a.put o.dst v') w') :
    if Region.wanted o (yielded ops a.tmps) = true then Oper.wp Try.prog o a w K Q else E := by
  have hw : Region.wanted o (yielded ops a.tmps) = true := by simp [Region.wanted, hgd]
  rw [if_pos hw]
  exact wp_appendI w s x ty ho B hB v u l r hs hx h hr hb hk
end
end Go.Proofs.Ytoppgecajibelaa
namespace Go.Proofs.Ytoppgecajibelaa
open Go.RowKit
/-- Only the list's own block has turned; the list lies there still, or in a new block. -/
def Moved (w w' : World) (v v' : Value) : Prop := (∀ k, k < w.heap.size → v.ownBlock ≠ some k → w'.heap[k]? = w.heap[k]?) ∧ ∀ g, v'.ownBlock = some g → v.ownBlock = some g ∨ w.heap.size ≤ g
theorem run_appendM {F : Nat → Prop} (w : World) (B : Nat) (hB : B ≤ w.heap.size) (v x : Value) (l r : List Int) (h : OwnI w B v l) (hx : IntF F w x r) (hb : l.length + r.length ≤ 17179869184) :
    ∃ v' w', (Builtin.append_ #[38, 38] 38 #[v, x]).run Try.prog w = .ok v' w' ∧ OwnI w' B v' (l ++ r) ∧ Below B w w' ∧ Moved w w' v v' := by
  obtain ⟨ii, hi, hz0, hz1, hz2⟩ := info_parts Try.infoI
  obtain ⟨ax, cx, rfl, x1, x2, x3⟩ := hx
  have hown : w.ownsRow B 3 1 v l.length (intsV l) := h
  cases ax with
  | none =>
    have h0 : r = [] := by
      rcases Nat.eq_zero_or_pos r.length with h0 | h0
      · exact List.length_eq_zero_iff.1 h0
      · obtain ⟨g, o, q, _⟩ := x3 h0
        cases q
    subst h0
    refine ⟨v, w, ?_, by rw [List.append_nil]; exact h, Below.refl _ _, fun _ _ _ => rfl, fun g hg => .inl hg⟩
    rcases hown.2 with ⟨rfl, e0⟩ | ⟨g, cap, cur, rfl, _, _, hnc, _⟩
    · simp [Builtin.append_, run_underlying Try.underlying38, sizeOf, typeInfo, hi, Builtin.lenOf, Builtin.firstCells]
    · simp [Builtin.append_, run_underlying Try.underlying38, sizeOf, typeInfo, hi, Builtin.lenOf, Builtin.firstCells, hnc, storeCells]
  | some ad =>
    have hnews : ∀ j u, (intsV r)[j]? = some u → w.cell? (ad.add j) = some u := by
      intro j u hu
      have hj : j < r.length := by
        have := (List.getElem?_eq_some_iff.1 hu).1
        rwa [intsV_length] at this
      obtain ⟨g, o, q, _, _, x4⟩ := x3 (by omega)
      cases q
      rw [Addr.add_lit, x4 j hj]
      simp [intsV, hj] at hu
      rw [hu]
    obtain ⟨v', w', hr, h2, h3, _, h5⟩ := run_append_own_at (P := Try.prog) w B 38 38 3 ii (.int .i64 0) 1 8 Try.underlying38 hi hz0 hz1 hz2 rfl (by decide) v l.length (intsV l) hown ad r.length cx (intsV r) (by rw [intsV_length, Nat.mul_one]) hnews (intsV_one r) (by unfold maxLen; omega) (by omega) hB
    refine ⟨v', w', hr, ?_, ?_, ?_, ?_⟩
    · unfold OwnI
      rw [intsV_append] at h2
      simpa using h2
    · exact (Below.refl B w).grown h3 hB (fun j hj => (hown.lt j hj).1)
    · exact fun k hk hv => h3.block k hk (fun e => hv e.symm)
    · intro g hg
      rcases h5 with h5 | h5
      · exact .inl (h5 ▸ hg)
      · rw [h5] at hg
        cases hg
        exact .inr (Nat.le_refl _)
section
variable {ops : Array Oper} {rest : List Oper} {o : Oper} {a : Act}
theorem wp_appendM {K : Act → World → Prop} {Q : Exit → Act → World → Prop} {F : Nat → Prop} (w : World) (s x : Operand) (ty : o.type = 38)
    (ho : o.op = .call { callee := .builtin .append, args := #[s, x], argTypes := #[38, 38] }) (B : Nat) (hB : B ≤ w.heap.size) (v u : Value) (l r : List Int) (hs : a.eval s = v) (hx : a.eval x = u) (h : OwnI w B v l) (hr : IntF F w u r) (hb : l.length + r.length ≤ 17179869184)
    (hk : ∀ v' w', OwnI w' B v' (l ++ r) → Below B w w' → Moved w w' v v' → K (a.put o.dst v') w') : o.wp Try.prog a w K Q := by
  obtain ⟨v', w', h1, h2, h3, h4⟩ := run_appendM w B hB v u l r h hr hb
  unfold Oper.wp execOp
  simp only [ho, resolve, invoke, builtin, Sem.run_bind, Sem.run_pure, Result.andThen_ok, List.map_toArray, List.map_cons, List.map_nil, hs, hx, ty, h1]
  exact hk v' w' h2 h3 h4
theorem wpList_appendM {Q : Exit → Act → World → Prop} {F : Nat → Prop} {w : World} (hgd : o.guard = none) (s x : Operand) (ty : o.type = 38)
    (ho : o.op = .call { callee := .builtin .append, args := #[s, x], argTypes := #[38, 38] }) (B : Nat) (hB : B ≤ w.heap.size) (v u : Value) (l r : List Int) (hs : a.eval s = v) (hx : a.eval x = u) (h : OwnI w B v l) (hr : IntF F w u r) (hb : l.length + r.length ≤ 17179869184)
    (hk : ∀ v' w', OwnI w' B v' (l ++ r) → Below B w w' → Moved w w' v v' → wpList Try.prog ops Q rest (a.put o.dst v') w') : wpList Try.prog ops Q (o :: rest) a w :=
  wpList_plain hgd fun _ hK => wp_appendM w s x ty ho B hB v u l r hs hx h hr hb fun v' w' h2 h3 h4 => hK _ _ (hk v' w' h2 h3 h4)
theorem step_appendM {K : Act → World → Prop} {Q : Exit → Act → World → Prop} {E : Prop} {F : Nat → Prop} (w : World) (hgd : o.guard = none) (s x : Operand) (ty : o.type = 38)
    (ho : o.op = .call { callee := .builtin .append, args := #[s, x], argTypes := #[38, 38] }) (B : Nat) (hB : B ≤ w.heap.size) (v u : Value) (l r : List Int) (hs : a.eval s = v) (hx : a.eval x = u) (h : OwnI w B v l) (hr : IntF F w u r) (hb : l.length + r.length ≤ 17179869184)
    (hk : ∀ v' w', OwnI w' B v' (l ++ r) → Below B w w' → Moved w w' v v' → K (a.put o.dst v') w') :
    if Region.wanted o (yielded ops a.tmps) = true then Oper.wp Try.prog o a w K Q else E := by
  have hw : Region.wanted o (yielded ops a.tmps) = true := by simp [Region.wanted, hgd]
  rw [if_pos hw]
  exact wp_appendM w s x ty ho B hB v u l r hs hx h hr hb hk
/-- A call of a function that the source names, at a step of a region that draws its order. -/
theorem step_call {K : Act → World → Prop} {Q : Exit → Act → World → Prop} {E : Prop} {R : Value → World → Prop} (w : World) (hgd : o.guard = none) (f : FuncId) (xs : List Operand) (ats : Array TypeId) (args : List Value)
    (ho : o.op = .call { callee := .value (.func f), args := xs.toArray, argTypes := ats }) (hargs : xs.map a.eval = args) (hen : ∀ args w, (callFunc f args).run Try.prog w = .ok (.enter f args) w)
    (h : Calls Try.prog f args.toArray w fun e w' => ∃ v, e = .returned v ∧ R v w') (hk : ∀ v w', R v w' → K (a.put o.dst v) w') :
    if Region.wanted o (yielded ops a.tmps) = true then Oper.wp Try.prog o a w K Q else E := by
  have hw : Region.wanted o (yielded ops a.tmps) = true := by simp [Region.wanted, hgd]
  rw [if_pos hw]
  obtain ⟨dst, op, ty, pos, af, gd⟩ := o
  obtain rfl : op = _ := ho
  obtain rfl : gd = none := hgd
  unfold Oper.wp
  rw [execOp_call_go, List.map_toArray, hargs, show #[] ++ args.toArray ++ #[] = args.toArray by simp, hen]
  refine Calls.mono h ?_
  rintro e w' ⟨v, rfl, hR⟩
  exact hk v w' hR
end
/-! ### three lists that grow beside each other, in a box -/
theorem OwnI.far {w : World} {B b : Nat} {v : Value} {l : List Int} {cs : Array Value} {t : TypeId} {fz : Nat × Nat} (h : OwnI w B v l) (hb : w.heap[b]? = some (.cells cs t fz)) (ht : 3 ≠ t) : v.ownBlock ≠ some b := fun e => by
  obtain ⟨_, _, c, k⟩ := ownsRow_kind h b e
  exact kinds_ne k hb ht rfl
/-- What another list's append leaves of a list. -/
theorem OwnI.beside {w w' : World} {B : Nat} {u v v' : Value} {l : List Int} (h : OwnI w B u l) (hm : Moved w w' v v') (hne : ∀ g, u.ownBlock = some g → v.ownBlock ≠ some g) : OwnI w' B u l ∧ ∀ g, v'.ownBlock = some g → u.ownBlock ≠ some g := by
  refine ⟨h.keepB fun k hk => hm.1 k (World.ownsRow.lt h k hk).2 (hne k hk), fun g hg hu => ?_⟩
  rcases hm.2 g hg with q | q
  · exact hne g hu q
  · exact absurd (World.ownsRow.lt h g hu).2 (Nat.not_lt.2 q)
theorem OwnI.alloc {w : World} {B : Nat} {v : Value} {l : List Int} (h : OwnI w B v l) (o : Obj) : OwnI (w.alloc o) B v l := h.keepB fun k hk => Go.Deep.blk_alloc_lt _ _ _ (World.ownsRow.lt h k hk).2
theorem Moved.pre {w : World} {o : Obj} {w' : World} {v v' : Value} (h : Moved (w.alloc o) w' v v') : Moved w w' v v' :=
  ⟨fun k hk hv => (h.1 k (by simp; omega) hv).trans (Go.Deep.blk_alloc_lt _ _ _ hk), fun g hg => (h.2 g hg).imp id fun q => Nat.le_trans (by simp) q⟩
theorem ints_lit (w : World) (zs : List Int) (h0 : zs.length ≤ 9223372036854775807) : IntS (w.alloc (.cells (intsV zs).toArray 3)) (.slice (some ⟨w.heap.size, 0, none⟩) zs.length zs.length) zs := by
  refine ⟨_, zs.length, rfl, Nat.le_refl _, h0, fun _ => ⟨w.heap.size, 0, rfl, by simp, fun j hj => ?_⟩⟩
  rw [Nat.zero_add, World.cell?_alloc_at _ _ _ _ rfl]
  simp [intsV, hj]
/-- A number in a block of its own. -/
theorem one_int (w : World) (x : Int) : IntF (fun _ => True) (w.alloc (.cells #[.int .i64 x] 3)) (.slice (some ⟨w.heap.size, 0, none⟩) 1 1) [x] :=
  (ints_lit w [x] (by simp)).intF
end Go.Proofs.Ytoppgecajibelaa
namespace Go.Proofs.Ytoppgecajibelaa
open Go.RowKit
theorem OwnI.form {w : World} {B : Nat} {v : Value} {l : List Int} (h : OwnI w B v l) : ∃ a cap, v = .slice a l.length cap := by
  obtain ⟨_, a, cap, h1, _⟩ := h.opened
  exact ⟨a, cap, h1⟩
theorem one_int' (w : World) (N : Nat) (hN : N = w.heap.size) (x : Int) : IntF (fun _ => True) (w.alloc (.cells #[.int .i64 x] 3)) (.slice (some ⟨N, 0, none⟩) 1 1) [x] := by
  subst hN
  exact one_int w x
theorem blk_lt {w : World} {k : Nat} {o : Obj} (h : w.heap[k]? = some o) : k < w.heap.size := (Array.getElem?_eq_some_iff.1 h).1
/-- A block of another kind than numbers stays when a list of numbers grows and lies in the box. -/
theorem past_list {w w' : World} {B b j q : Nat} {v v' : Value} {l : List Int} {cs : Array Value} {t : TypeId} (h : OwnI w B v l) (hm : Moved w w' v v') (hq : w.heap[q]? = some (.cells cs t (0, 0))) (ht : 3 ≠ t) (hne : q ≠ b) :
    (w'.setCell ⟨b, j, none⟩ v').heap[q]? = some (.cells cs t (0, 0)) := by
  rw [heap_other _ _ _ _ _ hne, hm.1 q (blk_lt hq) (h.far hq ht)]
  exact hq
end Go.Proofs.Ytoppgecajibelaa
namespace Go.Proofs.Ytoppgecajibelaa
open Go.RowKit
theorem int_at {w : World} {q m : Nat} {cs : Array Value} (h : w.heap[q]? = some (.cells cs 3 (0, 0))) (hm : m ≤ cs.size) (k : Nat) (hk : k < m) : (∃ u, w.cell? ⟨q, k, none⟩ = some u) ∧ w.frozen? ⟨q, k, none⟩ = false :=
  ⟨⟨cs[k]'(by omega), by simp [World.cell?, h, show k < cs.size by omega]⟩, by simp [World.frozen?, h]⟩
theorem int_set {w : World} {q m k p : Nat} {x : Value} (h : ∃ cs : Array Value, w.heap[q]? = some (.cells cs 3 (0, 0)) ∧ m ≤ cs.size) : ∃ cs : Array Value, (w.setCell ⟨p, k, none⟩ x).heap[q]? = some (.cells cs 3 (0, 0)) ∧ m ≤ cs.size := by
  obtain ⟨cs, h1, h2⟩ := h
  by_cases e : q = p
  · subst e
    exact ⟨_, heap_set _ _ _ _ _ _ _ h1, by rw [Array.size_setIfInBounds]; exact h2⟩
  · exact ⟨cs, (heap_other _ _ _ _ _ e).trans h1, h2⟩
theorem OwnI.blk {w : World} {B : Nat} {v : Value} {l : List Int} (h : OwnI w B v l) : ∃ a c q, v = .slice a l.length c ∧ l.length ≤ c ∧ c ≤ 9223372036854775807 ∧ (0 < l.length → a = some ⟨q, 0, none⟩ ∧ B ≤ q ∧ q < w.heap.size ∧ ∃ cs : Array Value, w.heap[q]? = some (.cells cs 3 (0, 0)) ∧ l.length ≤ cs.size) := by
  rcases h.2 with ⟨rfl, h0⟩ | ⟨g, cap, cur, rfl, hg, hh, hnc, hcp, hcs, _⟩
  · exact ⟨none, 0, 0, by rw [h0], by omega, by omega, fun h => by omega⟩
  · exact ⟨_, cap, g, rfl, hnc, by unfold maxLen at hcp; omega, fun _ => ⟨rfl, hg, blk_lt hh, cur, hh, by omega⟩⟩
end Go.Proofs.Ytoppgecajibelaa
