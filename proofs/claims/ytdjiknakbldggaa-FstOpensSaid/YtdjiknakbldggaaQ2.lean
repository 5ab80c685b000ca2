/-
  Lemmas on automata, the program's calls and the given ones, put together of 12 texts (part 2).
-/
import Derived.Test.YtdjiknakbldggaaQ1
import Derived.Maps.AppendAt
import Derived.ArgAppend
import Derived.Maps.OwnSet
import Derived.Maps.OwnOps
import Derived.Deep.AppendLies
import Derived.Deep.RegionHeld3
import Derived.Deep.RegionWith
import Derived.Deep.RegionLaw
import Derived.Deep.OwnRows
import Derived.Deep.LoopGhost
import Derived.BigRegion
import Derived.BigQuiet
import Derived.Laws.StructEq
import Derived.Laws.AppendOwnNone
import Derived.Laws.Cells
/-
  What the walks share: lists of the call's own, what else stays, maps; terms with numbers, wherever they lie; no call is walked here.
-/
namespace Go.Proofs.Ytdjiknakbldggaa
open Go.RowKit Go.Maps

theorem heap_other (w : World) (b i k : Nat) (v : Value) (h : k ≠ b) : (w.setCell ⟨b, i, none⟩ v).heap[k]? = w.heap[k]? :=
  Below.heap_setCell _ _ _ _ (by first | exact h | exact fun e => h e.symm | exact fun e => h e)
/-- Nothing but what F says has turned of what lay there. -/
structure KeptF (F : Nat → Prop) (w w' : World) : Prop where
  os : w'.os = w.os
  tape : w'.tape = w.tape
  output : w'.output = w.output
  size : w.heap.size ≤ w'.heap.size
  block : ∀ k, k < w.heap.size → ¬ F k → w'.heap[k]? = w.heap[k]?
theorem KeptF.refl (F : Nat → Prop) (w : World) : KeptF F w w := ⟨rfl, rfl, rfl, Nat.le_refl _, fun _ _ _ => rfl⟩
theorem KeptF.trans {F : Nat → Prop} {w w' w'' : World} (h : KeptF F w w') (k : KeptF F w' w'') : KeptF F w w'' :=
  ⟨k.os.trans h.os, k.tape.trans h.tape, k.output.trans h.output, Nat.le_trans h.size k.size, fun i hi hf => (k.block i (Nat.lt_of_lt_of_le hi h.size) hf).trans (h.block i hi hf)⟩
theorem KeptF.mono {F G : Nat → Prop} {w w' : World} (h : KeptF F w w') (hm : ∀ k, k < w.heap.size → F k → G k) : KeptF G w w' :=
  ⟨h.os, h.tape, h.output, h.size, fun i hi hf => h.block i hi (fun hF => hf (hm i hi hF))⟩
theorem KeptF.of_below {F : Nat → Prop} {w w' : World} (h : Below w.heap.size w w') : KeptF F w w' := ⟨h.os, h.tape, h.output, h.size, fun k hk _ => h.block k hk⟩
theorem KeptF.set {F : Nat → Prop} {w w' : World} (h : KeptF F w w') (b i : Nat) (hb : F b) (v : Value) : KeptF F w (w'.setCell ⟨b, i, none⟩ v) :=
  h.trans ⟨rfl, rfl, rfl, by simp [World.setCell], fun k _ hk => heap_other _ _ _ _ _ (fun e => hk (e ▸ hb))⟩
theorem KeptF.drew {F : Nat → Prop} {w w' : World} (h : KeptF F w w') : KeptF F w w'.drew := h.trans ⟨rfl, rfl, rfl, Nat.le_refl _, fun _ _ _ => rfl⟩
theorem KeptF.below {F : Nat → Prop} {B : Nat} {w0 w w' : World} (h : Below B w0 w) (k : KeptF F w w') (hF : ∀ k, F k → B ≤ k) (hB : B ≤ w.heap.size) : Below B w0 w' :=
  h.trans ⟨k.os, k.tape, k.output, k.size, fun i hi => k.block i (by omega) (fun hf => by have := hF i hf; omega)⟩

/-- A list that lies where nothing has turned. -/
theorem ownsRow_keep {w w' : World} {B : Nat} {t : TypeId} {z : Nat} {v : Value} {n : Nat} {xs : List Value} (h : w.ownsRow B t z v n xs) (e : ∀ k, v.ownBlock = some k → w'.heap[k]? = w.heap[k]?) : w'.ownsRow B t z v n xs := by
  refine ⟨h.1, ?_⟩
  rcases h.2 with h1 | ⟨g, cap, cur, rfl, hg, hh, hr⟩
  · exact .inl h1
  · exact .inr ⟨g, cap, cur, rfl, hg, (e g rfl).trans hh, hr⟩
theorem ownsRow_base {w : World} {B C : Nat} {t : TypeId} {z : Nat} {v : Value} {n : Nat} {xs : List Value} (h : w.ownsRow B t z v n xs) (hC : C ≤ B) : w.ownsRow C t z v n xs := by
  refine ⟨h.1, ?_⟩
  rcases h.2 with h1 | ⟨g, cap, cur, rfl, hg, hh, hr⟩
  · exact .inl h1
  · exact .inr ⟨g, cap, cur, rfl, Nat.le_trans hC hg, hh, hr⟩
section
variable {P : Program} (w : World)
/-- append onto an own row: in place, and nothing else turns; or into a new block, and nothing old turns at all. -/
theorem run_append_two (base : Nat) (t ty e : TypeId) (i : TypeInfo) (z : Value) (size bytes : Nat) (ht : P.underlying t = some (.slice e)) (hi : P.info? e = some i) (hz : i.zero = some z)
    (hsize : i.size = size) (hby : i.bytes = bytes) (hzs : z.cells.size = size) (hsz : 0 < size)
    (v : Value) (n : Nat) (xs : List Value) (hown : w.ownsRow base e size v n xs)
    (a : Addr) (m c : Nat) (news : List Value) (hl : news.length = m * size) (hnews : ∀ j u, news[j]? = some u → w.cell? (a.add j) = some u) (h1 : ∀ u ∈ news, u.oneCell' = true)
    (h63 : n + m ≤ maxLen) (hbytes : (n + m) * bytes ≤ 140737488355328) (hbase : base ≤ w.heap.size) :
    ∃ v' w', (Builtin.append_ #[t, t] ty #[v, .slice (some a) m c]).run P w = .ok v' w' ∧ w'.ownsRow base e size v' (n + m) (xs ++ news) ∧
      ((v'.ownBlock = v.ownBlock ∧ w.grownBy w' v.ownBlock) ∨ ((∀ b, v'.ownBlock = some b → w.heap.size ≤ b) ∧ w.grownBy w' none)) := by
  obtain ⟨v', w', hr, h2, h3, _, h5⟩ := run_append_own_at (P := P) w base t ty e i z size bytes ht hi hz hsize hby hzs hsz v n xs hown a m c news hl hnews h1 h63 hbytes hbase
  rcases hown.2 with ⟨rfl, rfl⟩ | ⟨g, cap, cur, rfl, hbg, hg, hnc, hcm, hcs, htake⟩
  · refine ⟨v', w', hr, h2, .inr ⟨fun b hb => ?_, h3⟩⟩
    rcases h5 with h5 | h5
    · rw [h5] at hb; cases hb
    · rw [h5] at hb; cases hb; exact Nat.le_refl _
  · by_cases hroom : n + m ≤ cap
    · have hfit : n * i.size + news.length ≤ cur.size := by rw [hl, hcs, hsize, ← Nat.add_mul]; exact Nat.mul_le_mul_right _ hroom
      have hr2 := run_append_room (P := P) w t ty e i ht hi g n cap cur hg a m c news (by rw [hsize]; exact hl) hnews h1 hroom hfit
      rw [hr] at hr2
      injection hr2 with e1 e2
      exact ⟨v', w', hr, h2, .inl ⟨by rw [e1]; rfl, h3⟩⟩
    · have holds : ∀ j u, xs[j]? = some u → w.cell? ((⟨g, 0, none⟩ : Addr).add j) = some u := hown.cells (g := g) rfl
      obtain ⟨v2, w2, hr2, h6, h7⟩ := run_append_arg_grows (P := P) w t ty e i z size bytes ht hi hz hsize hby hzs hsz ⟨g, 0, none⟩ n cap xs hown.1 holds a m c news hl hnews (by omega) h63 hbytes
      exact ⟨v2, w2, hr2, ownsRow_base h6 hbase, .inr ⟨fun b hb => (h6.lt b hb).1, h7⟩⟩
theorem wpList_append_two {ops : Array Oper} {rest : List Oper} {o : Oper} {a : Act} {Q : Exit → Act → World → Prop} (hgd : o.guard = none) (s x : Operand) (t : TypeId)
    (ho : o.op = .call { callee := .builtin .append, args := #[s, x], argTypes := #[t, t] })
    (base : Nat) (e : TypeId) (i : TypeInfo) (z : Value) (size bytes : Nat) (ht : P.underlying t = some (.slice e)) (hi : P.info? e = some i) (hz : i.zero = some z)
    (hsize : i.size = size) (hby : i.bytes = bytes) (hzs : z.cells.size = size) (hsz : 0 < size)
    (v : Value) (n : Nat) (xs : List Value) (hs : a.eval s = v) (hown : w.ownsRow base e size v n xs)
    (ad : Addr) (m c : Nat) (news : List Value) (hx : a.eval x = .slice (some ad) m c) (hl : news.length = m * size) (hnews : ∀ j u, news[j]? = some u → w.cell? (ad.add j) = some u) (h1 : ∀ u ∈ news, u.oneCell' = true)
    (h63 : n + m ≤ maxLen) (hbytes : (n + m) * bytes ≤ 140737488355328) (hbase : base ≤ w.heap.size)
    (h : ∀ v' w', w'.ownsRow base e size v' (n + m) (xs ++ news) → ((v'.ownBlock = v.ownBlock ∧ w.grownBy w' v.ownBlock) ∨ ((∀ b, v'.ownBlock = some b → w.heap.size ≤ b) ∧ w.grownBy w' none)) → wpList P ops Q rest (a.put o.dst v') w') :
    wpList P ops Q (o :: rest) a w := by
  refine wpList_plain hgd fun K hK => ?_
  obtain ⟨v', w', hr, h2, h3⟩ := run_append_two (P := P) w base t o.type e i z size bytes ht hi hz hsize hby hzs hsz v n xs hown ad m c news hl hnews h1 h63 hbytes hbase
  unfold Oper.wp execOp
  simp only [ho, resolve, invoke, builtin, Sem.run_bind, Sem.run_pure, Result.andThen_ok, List.map_toArray, List.map_cons, List.map_nil, hs, hx, hr]
  exact hK _ _ (h v' w' h2 h3)
end

namespace Ap
/-- What an append may have done: in place, or in a new block. -/
def Two (w w' : World) (v v' : Value) : Prop := (v'.ownBlock = v.ownBlock ∧ w.grownBy w' v.ownBlock) ∨ ((∀ b, v'.ownBlock = some b → w.heap.size ≤ b) ∧ w.grownBy w' none)
theorem Two.far {w w' : World} {v v' : Value} (h : Two w w' v v') {k : Nat} (hk : k < w.heap.size) (hv : v.ownBlock ≠ some k) : w'.heap[k]? = w.heap[k]? := by
  rcases h with ⟨_, h⟩ | ⟨_, h⟩
  · exact h.block k hk (fun e => hv e.symm)
  · exact h.block k hk (fun e => by cases e)
theorem Two.at {w w' : World} {v v' : Value} (h : Two w w' v v') {b : Nat} (hb : v'.ownBlock = some b) : v.ownBlock = some b ∨ w.heap.size ≤ b := by
  rcases h with ⟨h, _⟩ | ⟨h, _⟩
  · exact .inl (h ▸ hb)
  · exact .inr (h b hb)
theorem Two.size {w w' : World} {v v' : Value} (h : Two w w' v v') : w.heap.size ≤ w'.heap.size := by
  rcases h with ⟨_, h⟩ | ⟨_, h⟩ <;> exact h.size
theorem Two.rest {w w' : World} {v v' : Value} (h : Two w w' v v') : w'.os = w.os ∧ w'.tape = w.tape ∧ w'.output = w.output := by
  rcases h with ⟨_, h⟩ | ⟨_, h⟩ <;> exact ⟨h.os, h.tape, h.output⟩
theorem Two.drop {w w' : World} {v v' : Value} {o : Obj} (h : Two (w.alloc o) w' v v') : Two w w' v v' := by
  rcases h with ⟨h1, h⟩ | ⟨h1, h⟩
  · exact .inl ⟨h1, h.os, h.tape, h.output, Nat.le_trans (by simp) h.size, fun k hk hv => (h.block k (by simp; omega) hv).trans (Go.Deep.blk_alloc_lt w _ _ hk)⟩
  · exact .inr ⟨fun b hb => Nat.le_trans (by simp) (h1 b hb), h.os, h.tape, h.output, Nat.le_trans (by simp) h.size, fun k hk hv => (h.block k (by simp; omega) hv).trans (Go.Deep.blk_alloc_lt w _ _ hk)⟩
end Ap
/-! ### maps -/
/-- An element reads as itself. -/
def rV (v : Value) : Option (DataW Value × List MemPlace) := some (.held v, [])
/-- Block b holds a map; F says what stands at which key. -/
def MapG (k : TypeId) (w : World) (b n : Nat) (F : Lit → Option Value) : Prop :=
  ∃ D : DataW Value, w.ownsMap Try.prog k rV b n D ∧ ∀ kl z, WideAt.IsKeyLit kl → has D kl = (F kl).isSome ∧ D.atKey kl (.held z) = .held ((F kl).getD z)
theorem MapG.lt {k : TypeId} {w : World} {b n : Nat} {F : Lit → Option Value} (h : MapG k w b n F) : b < w.heap.size := by
  obtain ⟨D, h, _⟩ := h
  exact h.lt
theorem MapG.keep {k : TypeId} {w w' : World} {b n : Nat} {F : Lit → Option Value} (h : MapG k w b n F) (e : w'.heap[b]? = w.heap[b]?) : MapG k w' b n F := by
  obtain ⟨D, ⟨es, clock, hb, hr⟩, hs⟩ := h
  exact ⟨D, ⟨es, clock, e.trans hb, hr⟩, hs⟩
theorem MapG.mono {k : TypeId} {w : World} {b n n' : Nat} {F : Lit → Option Value} (h : MapG k w b n F) (hn : n ≤ n') : MapG k w b n' F := by
  obtain ⟨D, h, hs⟩ := h
  exact ⟨D, h.mono hn, hs⟩
theorem MapG.congr {k : TypeId} {w : World} {b n : Nat} {F G : Lit → Option Value} (h : MapG k w b n F) (e : ∀ kl, WideAt.IsKeyLit kl → F kl = G kl) : MapG k w b n G := by
  obtain ⟨D, h, hs⟩ := h
  exact ⟨D, h, fun kl z hk => by rw [← e kl hk]; exact hs kl z hk⟩
theorem mapG_made (k : TypeId) (w : World) : MapG k (w.alloc (.map #[] 0)) w.heap.size 0 (fun _ => none) := ⟨.map [], World.ownsMap_made w _ _ _, fun _ _ _ => ⟨rfl, rfl⟩⟩
theorem MapG.kind {k : TypeId} {w : World} {b n : Nat} {F : Lit → Option Value} (h : MapG k w b n F) : ∀ c t fz, w.heap[b]? ≠ some (.cells c t fz) := by
  obtain ⟨D, ⟨es, clock, hb, _⟩, _⟩ := h
  intro c t fz e
  rw [hb] at e
  cases e
open Classical in
noncomputable def updG (F : Lit → Option Value) (s : Lit) (o : Option Value) : Lit → Option Value := fun t => if t = s then o else F t
theorem updG_same (F : Lit → Option Value) (s : Lit) (o : Option Value) : updG F s o s = o := by unfold updG; rw [if_pos rfl]
theorem updG_other (F : Lit → Option Value) (s t : Lit) (o : Option Value) (h : t ≠ s) : updG F s o t = F t := by unfold updG; rw [if_neg h]

section
variable (w : World) {ops : Array Oper} {rest : List Oper} {o : Oper} {a : Act} {Q : Exit → Act → World → Prop}
/-- 'm[key]'. -/
theorem wpList_lookG (hg : o.guard = none) (m x : Operand) (t k e : TypeId) (hop : o.op = Op.lookup t m x false) (K : Keyed Try.prog k) (ht : Try.prog.underlying t = some (.map k e)) (z : Value) (hz : ∀ w, (zeroValue e).run Try.prog w = .ok z w)
    (b n : Nat) (F : Lit → Option Value) (hm : a.eval m = .map (some b)) (hM : MapG k w b n F) (key : Value) (kl : Lit) (hx : a.eval x = key) (hkey : keyOf Try.prog k key = some kl)
    (hK : wpList Try.prog ops Q rest (a.put o.dst ((F kl).getD z)) w) : wpList Try.prog ops Q (o :: rest) a w := by
  obtain ⟨D, hown, hF⟩ := hM
  refine wpList_plain hg fun K' hK' => ?_
  obtain ⟨v, ps, hrun, hv⟩ := hown.lookup K ht (hz w) (zd := .held z) (zp := []) rfl hkey
  have e : v = (F kl).getD z := by
    rw [(hF kl z (K.key hkey)).2] at hv
    unfold rV at hv
    simp only [Option.some.injEq, Prod.mk.injEq, DataW.held.injEq] at hv
    exact hv.1
  subst e
  unfold Oper.wp
  simp [execOp, hop, hm, hx, hrun, Result.andThen]
  exact hK' _ _ hK
/-- 'v, ok := m[key]'. -/
theorem wpList_lookOkG (hg : o.guard = none) (m x : Operand) (t k e : TypeId) (hop : o.op = Op.lookup t m x true) (K : Keyed Try.prog k) (ht : Try.prog.underlying t = some (.map k e)) (z : Value) (hz : ∀ w, (zeroValue e).run Try.prog w = .ok z w)
    (b n : Nat) (F : Lit → Option Value) (hm : a.eval m = .map (some b)) (hM : MapG k w b n F) (key : Value) (kl : Lit) (hx : a.eval x = key) (hkey : keyOf Try.prog k key = some kl)
    (hK : wpList Try.prog ops Q rest (a.put o.dst (.tuple #[(F kl).getD z, .bool (F kl).isSome])) w) : wpList Try.prog ops Q (o :: rest) a w := by
  obtain ⟨D, hown, hF⟩ := hM
  refine wpList_lookup_own_ok w hg m x t hop k e K ht rV (hz w) (.held z) [] rfl b n D hm hown key kl hx hkey fun v ps hv => ?_
  obtain ⟨h1, h2⟩ := hF kl z (K.key hkey)
  rw [h2] at hv
  unfold rV at hv
  simp only [Option.some.injEq, Prod.mk.injEq, DataW.held.injEq] at hv
  rw [hv.1, h1]
  exact hK
/-- 'm[key] = v'. -/
theorem wpList_storeG (hg : o.guard = none) (m x v : Operand) (t k e : TypeId) (hop : o.op = Op.mapUpdate t m x v) (K : Keyed Try.prog k) (ht : Try.prog.underlying t = some (.map k e))
    (b n : Nat) (F : Lit → Option Value) (hm : a.eval m = .map (some b)) (hM : MapG k w b n F) (hn : n < maxLen) (key : Value) (kl : Lit) (hx : a.eval x = key) (hkey : keyOf Try.prog k key = some kl) (u : Value) (hv : a.eval v = u)
    (hK : ∀ w', MapG k w' b (n + 1) (updG F kl (some u)) → w.grownBy w' (some b) → wpList Try.prog ops Q rest (a.put o.dst undef) w') : wpList Try.prog ops Q (o :: rest) a w := by
  obtain ⟨D, hown, hF⟩ := hM
  refine wpList_mapUpdate_own w hg m x v t hop k e K ht rV b n D hm hown hn key u kl hx hv hkey (.held u) [] rfl fun w' h1 h2 => ?_
  refine hK w' ⟨_, h1, fun l z hl => ?_⟩ h2
  by_cases e : l = kl
  · subst e
    rw [updG_same]
    exact ⟨has_put_same hown.isMap hl _, atKey_put_same hown.isMap hl _ _⟩
  · rw [updG_other _ _ _ _ e, has_put_other e, atKey_put_other e]
    exact hF l z hl
end


theorem belowN {B : Nat} {a w : World} (h : Below B a w) (n : Nat) : Below B a (w.drewN n) := h.trans ⟨rfl, rfl, rfl, Nat.le_refl _, fun _ _ => rfl⟩
/-! ### terms with numbers -/
/-- The text of these bytes. -/
def bs (l : List UInt8) : ByteArray := ⟨l.toArray⟩
theorem bs_data (l : List UInt8) : (bs l).data.toList = l := by simp [bs]
theorem bs_list (l : List UInt8) : (bs l).toList = l := by rw [ByteArray.toList_eq, bs_data]
theorem bs_size (l : List UInt8) : (bs l).size = l.length := by simp [bs, ByteArray.size]
theorem bs_of (s : ByteArray) : bs s.data.toList = s := by cases s; simp [bs]
theorem bs_inj {a b : List UInt8} (h : bs a = bs b) : a = b := by rw [← bs_data a, ← bs_data b, h]
theorem bs_append (a b : List UInt8) : bs a ++ bs b = bs (a ++ b) := by
  apply mk_of
  rw [ByteArray.data_append]
  simp [bs]
theorem bs_cut (s : List UInt8) (y n : Nat) : (bs s).extract y (y + n) = bs ((s.drop y).take n) := by
  rw [cut_mk, bs_data]
  rfl
theorem bs_get (l : List UInt8) (i : Nat) (_ : i < (bs l).size) (h' : i < l.length) : (bs l)[i] = l[i] := by
  show (bs l).data[i] = _
  simp [bs]
theorem Try.infoE : (Try.prog.info? 26).map (fun i => (i.zero, i.size, i.bytes)) = some (some (.agg #[.string ByteArray.empty, .int .i64 0]), 2, 24) := by kernel_rfl
theorem Try.infoI : (Try.prog.info? 3).map (fun i => (i.zero, i.size, i.bytes)) = some (some (.int .i64 0), 1, 8) := by kernel_rfl
theorem Try.infoS : (Try.prog.info? 9).map (fun i => (i.zero, i.size, i.bytes)) = some (some (.string ByteArray.empty), 1, 16) := by kernel_rfl
/-- Terms as cells. -/
def entV (l : List Fs.En) : List Value := l.flatMap fun x => [.string (bs x.1), .int .i64 x.2]
theorem entV_length (l : List Fs.En) : (entV l).length = l.length * 2 := by
  induction l with
  | nil => rfl
  | cons x t ih =>
    show (_ :: _ :: entV t).length = _
    simp only [List.length_cons, ih]
    omega
theorem entV_s (l : List Fs.En) : ∀ i (h : i < l.length), (entV l)[i * 2]? = some (.string (bs l[i].1)) := by
  induction l with
  | nil => intro i h; cases h
  | cons x t ih =>
    intro i h
    cases i with
    | zero => rfl
    | succ i =>
      simp only [List.length_cons, Nat.add_lt_add_iff_right] at h
      have e : (i + 1) * 2 = i * 2 + 1 + 1 := by omega
      rw [e]
      exact ih i h
theorem entV_n (l : List Fs.En) : ∀ i (h : i < l.length), (entV l)[i * 2 + 1]? = some (.int .i64 l[i].2) := by
  induction l with
  | nil => intro i h; cases h
  | cons x t ih =>
    intro i h
    cases i with
    | zero => rfl
    | succ i =>
      simp only [List.length_cons, Nat.add_lt_add_iff_right] at h
      have e : (i + 1) * 2 + 1 = i * 2 + 1 + 1 + 1 := by omega
      rw [e]
      exact ih i h
theorem entV_snoc (l : List Fs.En) (x : Fs.En) : entV l ++ [.string (bs x.1), .int .i64 x.2] = entV (l ++ [x]) := by simp [entV]
theorem entV_append (l k : List Fs.En) : entV l ++ entV k = entV (l ++ k) := by simp [entV]
/-- These terms lie at this place. -/
def EnC (w : World) (g o : Nat) (l : List Fs.En) : Prop := ∀ i (_ : i < l.length), w.cell? ⟨g, o + i * 2, none⟩ = some (.string (bs l[i].1)) ∧ w.cell? ⟨g, o + i * 2 + 1, none⟩ = some (.int .i64 l[i].2)
/-- The value v is a slice of these terms. -/
def EnS (w : World) (v : Value) (l : List Fs.En) : Prop :=
  ∃ a cap, v = .slice a l.length cap ∧ l.length ≤ cap ∧ cap ≤ 9223372036854775807 ∧ (0 < l.length → ∃ g o, a = some ⟨g, o, none⟩ ∧ g < w.heap.size ∧ EnC w g o l)
theorem EnC.same {w w' : World} {g o : Nat} {l : List Fs.En} (h : EnC w g o l) (e : w'.heap[g]? = w.heap[g]?) : EnC w' g o l := fun i hi =>
  ⟨(World.cell?_of_block (a := ⟨g, o + i * 2, none⟩) e).trans (h i hi).1, (World.cell?_of_block (a := ⟨g, o + i * 2 + 1, none⟩) e).trans (h i hi).2⟩
theorem EnC.below {w w' : World} {B g o : Nat} {l : List Fs.En} (h : EnC w g o l) (hb : Below B w w') (hg : g < B) : EnC w' g o l := h.same (hb.block g hg)
theorem EnS.below {w w' : World} {B : Nat} {v : Value} {l : List Fs.En} (h : EnS w v l) (hb : Below B w w') (hB : w.heap.size ≤ B) : EnS w' v l := by
  obtain ⟨a, cap, h1, h2, h3, h4⟩ := h
  refine ⟨a, cap, h1, h2, h3, fun h0 => ?_⟩
  obtain ⟨g, o, h5, h6, h7⟩ := h4 h0
  exact ⟨g, o, h5, Nat.lt_of_lt_of_le h6 hb.size, h7.below hb (Nat.lt_of_lt_of_le h6 hB)⟩
theorem EnC.drop {w : World} {g o : Nat} {l : List Fs.En} (h : EnC w g o l) (p : Nat) : EnC w g (o + p * 2) (l.drop p) := fun i hi => by
  rw [List.length_drop] at hi
  have := h (p + i) (by omega)
  rw [List.getElem_drop, show o + p * 2 + i * 2 = o + (p + i) * 2 by omega]
  exact this
theorem EnC.take {w : World} {g o : Nat} {l : List Fs.En} (h : EnC w g o l) (p : Nat) : EnC w g o (l.take p) := fun i hi => by
  rw [List.length_take] at hi
  rw [List.getElem_take]
  exact h i (by omega)
/-- The slice v is the call's own, from block B on, and holds these terms. -/
def OwnE (w : World) (B : Nat) (v : Value) (l : List Fs.En) : Prop := w.ownsRow B 26 2 v l.length (entV l)
theorem OwnE.opened {w : World} {B : Nat} {v : Value} {l : List Fs.En} (h : OwnE w B v l) : ∃ g a cap, v = .slice a l.length cap ∧ l.length ≤ cap ∧ cap ≤ 9223372036854775807 ∧ (0 < l.length → a = some ⟨g, 0, none⟩ ∧ g < w.heap.size) ∧ B ≤ g ∧ (∀ k, v.ownBlock = some k → k = g) ∧
    EnC w g 0 l ∧ (0 < l.length → ∀ j, w.frozen? ⟨g, j, none⟩ = false) := by
  rcases h.2 with ⟨rfl, h0⟩ | ⟨g, cap, cur, rfl, hg, hh, hnc, hcp, hcs, htake⟩
  · exact ⟨B, none, 0, by rw [h0], by omega, by omega, fun h => by omega, Nat.le_refl _, fun k hk => (by cases hk), fun i hi => by omega, fun h => by omega⟩
  · have hown : w.ownsRow B 26 2 (.slice (some ⟨g, 0, none⟩) l.length cap) l.length (entV l) := h
    refine ⟨g, _, cap, rfl, hnc, by unfold maxLen at hcp; omega, fun _ => ⟨rfl, (hown.lt g rfl).2⟩, hg, fun k hk => by simpa [Value.ownBlock] using hk.symm, fun i hi => ?_, fun _ j => by simp [World.frozen?, hh]⟩
    have e : ∀ j u, (entV l)[j]? = some u → w.cell? ⟨g, j, none⟩ = some u := fun j u hj => by
      have h := hown.cells (g := g) rfl j u hj
      rw [Addr.add_lit, Nat.zero_add] at h
      exact h
    rw [Nat.zero_add]
    exact ⟨e _ _ (entV_s l i hi), e _ _ (entV_n l i hi)⟩
theorem OwnE.ens {w : World} {B : Nat} {v : Value} {l : List Fs.En} (h : OwnE w B v l) : EnS w v l := by
  obtain ⟨g, a, cap, h1, h2, h3, h4, _, _, h5, _⟩ := h.opened
  exact ⟨a, cap, h1, h2, h3, fun h0 => ⟨g, 0, (h4 h0).1, (h4 h0).2, h5⟩⟩
theorem new_ent (w : World) (s : ByteArray) (m : Int) : ∀ j u, [Value.string s, .int .i64 m][j]? = some u → (w.alloc (.cells #[.string s, .int .i64 m] 26)).cell? ((⟨w.heap.size, 0, none⟩ : Addr).add j) = some u := by
  intro j u hj
  match j, hj with
  | 0, hj => simp at hj; subst hj; simp [Addr.add]
  | 1, hj => simp at hj; subst hj; simp [Addr.add]
theorem one_ent (s : ByteArray) (m : Int) : ∀ u ∈ [Value.string s, .int .i64 m], u.oneCell' = true := by
  intro u hu
  simp only [List.mem_cons, List.mem_nil_iff, or_false] at hu
  rcases hu with rfl | rfl <;> rfl
/-- 'append(v, Entry)' of one term, which lies in a new block. -/
theorem wpList_pushE {ops : Array Oper} {rest : List Oper} {o : Oper} {a : Act} {Q : Exit → Act → World → Prop} {w : World} (hgd : o.guard = none) (s x : Operand)
    (ho : o.op = .call { callee := .builtin .append, args := #[s, x], argTypes := #[22, 22] })
    (B : Nat) (hB : B ≤ w.heap.size) (v : Value) (l : List Fs.En) (S : List UInt8) (c : Int) (hs : a.eval s = v) (h : OwnE w B v l) (hx : a.eval x = .slice (some ⟨w.heap.size, 0, none⟩) 1 1)
    (hb : l.length + 1 ≤ 1099511627776)
    (hk : ∀ v' w', OwnE w' B v' (l ++ [(S, c)]) → Below B w w' → Ap.Two (w.alloc (.cells #[.string (bs S), .int .i64 c] 26)) w' v v' → wpList Try.prog ops Q rest (a.put o.dst v') w') :
    wpList Try.prog ops Q (o :: rest) a (w.alloc (.cells #[.string (bs S), .int .i64 c] 26)) := by
  obtain ⟨ii, hi, hz0, hz1, hz2⟩ := info_parts Try.infoE
  have hown : w.ownsRow B 26 2 v l.length (entV l) := h
  refine wpList_append_two _ hgd s x 22 ho B 26 ii _ 2 24 Try.underlying22 hi hz0 hz1 hz2 rfl (by decide) _ _ _ hs (hown.alloc _) ⟨w.heap.size, 0, none⟩ 1 1 [.string (bs S), .int .i64 c] hx rfl (new_ent w _ c) (one_ent _ c) (by unfold maxLen; omega) (by omega) (by simp; omega) ?_
  intro v' w' h1 h2
  refine hk v' w' ?_ ?_ h2
  · unfold OwnE
    rw [entV_snoc l (S, c)] at h1
    simpa using h1
  · have hg : (w.alloc (.cells #[.string (bs S), .int .i64 c] 26)).grownBy w' v.ownBlock ∨ (w.alloc (.cells #[.string (bs S), .int .i64 c] 26)).grownBy w' none := h2.elim (fun h => .inl h.2) fun h => .inr h.2
    rcases hg with hg | hg
    · exact ((Below.refl B w).alloc hB _).grown hg (by simp; omega) (fun j hj => (hown.lt j hj).1)
    · exact ((Below.refl B w).alloc hB _).grown hg (by simp; omega) (fun j hj => by cases hj)
theorem ownE_nil (w : World) (B : Nat) : OwnE w B (.slice none 0 0) [] := World.ownsRow_nil _ _ _ _
end Go.Proofs.Ytdjiknakbldggaa

/-
  Which lists may be built: the program's check and the document's Right.
-/
namespace Go.Proofs.Ytdjiknakbldggaa
open Go.RowKit

theorem bs_empty (l : List UInt8) : (bs l).toList.isEmpty = l.isEmpty := by rw [bs_list]
theorem u8_lt (a b : UInt8) : decide (a < b) = decide (a.toNat < b.toNat) := rfl
/-- The order of texts is Go's. -/
theorem less_lt : ∀ a b : List UInt8, Op.bytesLess a b = Fs.lt a b
  | [], [] => rfl
  | [], _ :: _ => rfl
  | _ :: _, [] => rfl
  | a :: s, b :: t => by
    show (decide (a < b) || (a == b && Op.bytesLess s t)) = (decide (a.toNat < b.toNat) || (decide (a = b) && Fs.lt s t))
    rw [less_lt s t, u8_lt]
    congr 1
theorem leq_lt (a b : List UInt8) : (Op.bytesLess a b || a == b) = !Fs.lt b a := by
  rw [less_lt]
  by_cases h : a = b
  · subst h
    rw [Fs.lt_irrefl]
    simp
  · have h1 : (a == b) = false := by simpa using h
    rw [h1, Bool.or_false]
    cases h2 : Fs.lt a b
    · cases h3 : Fs.lt b a
      · exfalso
        have tri : ∀ a b : List UInt8, Fs.lt a b = false → Fs.lt b a = false → a = b := by
          intro a
          induction a with
          | nil => intro b h1 h2; cases b with | nil => rfl | cons _ _ => cases h1
          | cons x a ih =>
            intro b h1 h2
            cases b with
            | nil => cases h2
            | cons y b =>
              simp only [Fs.lt, Bool.or_eq_false_iff, decide_eq_false_iff_not, Bool.and_eq_false_iff] at h1 h2
              have e : x = y := UInt8.toNat_inj.1 (by omega)
              subst e
              rw [ih b (h1.2.resolve_left (fun q => q rfl)) (h2.2.resolve_left (fun q => q rfl))]
        exact h (tri a b h2 h3)
      · rfl
    · rw [Fs.lt_asymm h2]; rfl
theorem drop_en {l : List Fs.En} {k : Nat} (h : k < l.length) : l.drop k = l[k] :: l.drop (k + 1) := List.drop_eq_getElem_cons h

theorem rightF_cons (ah : List UInt8) (e : Fs.En) (l : List Fs.En) : Fs.rightF ah (e :: l) = if e.1 = [] ∨ e.2 < 0 then 1 else if 64 < e.1.length then 4 else if Fs.lt ah e.1 = false then 3 else Fs.rightF e.1 l := rfl
set_option maxRecDepth 100000 in
set_option maxHeartbeats 4000000 in
/-- What check answers. -/
theorem check_any (w : World) (v : Value) (l : List Fs.En) (h : EnS w v l) :
    Calls Try.prog 25 #[v] w fun e w' => e = .returned (.int .i64 (Fs.right l)) ∧ Below w.heap.size w w' := by
  obtain ⟨a, cap, rfl, hx, hx', hu⟩ := h
  have HU := Lib.hid hu
  obtain ⟨n, hn⟩ : ∃ n, n = l.length := ⟨_, rfl⟩
  have HN := Lib.hid hn
  rw [← hn] at hx ⊢
  clear hu
  by_cases hbig : 65536 < n
  · have hR : Hid (Fs.right l = 8) := by show _ = _; unfold Fs.right; rw [if_pos (by omega)]
    have i1 : (65536 : Int) < (n : Int) := by omega
    clear hn hbig
    go_enter Try.func25, Try.ntmps25
    go_wp2_with fail
    go_ret
    exact ⟨by rw [hR.out]; rfl, Below.refl _ _⟩
  · have hR : Hid (Fs.right l = Fs.rightF [] l) := by show _ = _; unfold Fs.right; rw [if_neg (by omega)]
    have i1 : ¬ (65536 : Int) < (n : Int) := by omega
    have hn2 : n ≤ 65536 := by omega
    clear hn hbig
    go_enter Try.func25, Try.ntmps25
    go_wp2_with fail
    go_loopg [3, 11] n (fun g av i wx => ∃ (k : Nat) (A : List UInt8), k ≤ n ∧ g = n - k ∧ i = .int .i64 k ∧ av = .string (bs A) ∧ Hid (Fs.rightF A (l.drop k) = Fs.rightF [] l) ∧ Below w.heap.size w wx)
    case atStart => exact ⟨0, [], Nat.zero_le _, rfl, rfl, rfl, by show _ = _; rw [List.drop_zero], Below.refl _ _⟩
    case round =>
      obtain ⟨k, A, hk, rfl, rfl, rfl, hS, hbel⟩ := hrel
      by_cases hkn : k < n
      · have i2 : (k : Int) < (n : Int) := by omega
        have kx : k < l.length := by rw [← HN.out]; exact hkn
        obtain ⟨g, o, rfl, hg, hcu⟩ := HU.out (by omega)
        have c1 : wr.cell? ⟨g, o + k * 2, none⟩ = some (.string (bs l[k].1)) := ((hcu.below hbel hg) k kx).1
        have c2 : wr.cell? ⟨g, o + k * 2 + 1, none⟩ = some (.int .i64 l[k].2) := ((hcu.below hbel hg) k kx).2
        have HBE := Lib.hid hbel
        have hS2 := hS.out
        rw [drop_en kx] at hS2
        rw [rightF_cons] at hS2
        have HS2 := Lib.hid hS2
        have hsz := bs_size l[k].1
        have hem := bs_empty l[k].1
        have hcmp := leq_lt l[k].1 A
        rw [← bs_list l[k].1, ← bs_list A, bs_list l[k].1, bs_list A] at hcmp
        have hcmp2 : (Op.bytesLess (bs l[k].1).toList (bs A).toList || (bs l[k].1).toList == (bs A).toList) = !Fs.lt A l[k].1 := by rw [bs_list, bs_list]; exact hcmp
        clear hS hS2 hbel hcu hcmp
        generalize l[k].1 = t at *
        generalize l[k].2 = x at *
        have HBA := Lib.hid (HBE.out.alloc HBE.out.size (.cells #[.string (bs t), .int .i64 x] 26))
        by_cases ht : t = []
        · have he : (bs t).toList.isEmpty = true := by rw [hem, ht]; rfl
          have hfin : Hid (Fs.right l = 1) := by show _ = _; rw [hR.out, ← HS2.out, if_pos (.inl ht)]
          clear ht hem hcmp2 hsz
          generalize bs t = T at *
          go_wp2_with fail
          go_ret
          exact ⟨by rw [hfin.out]; rfl, HBA.out⟩
        · have he : (bs t).toList.isEmpty = false := by rw [hem]; cases t with | nil => exact absurd rfl ht | cons _ _ => rfl
          by_cases hx0 : x < 0
          · have hfin : Hid (Fs.right l = 1) := by show _ = _; rw [hR.out, ← HS2.out, if_pos (.inr hx0)]
            clear ht hem hcmp2 hsz
            generalize bs t = T at *
            go_wp2_with fail
            go_ret
            exact ⟨by rw [hfin.out]; rfl, HBA.out⟩
          · have hS3 := HS2.out
            rw [if_neg (by rintro (q | q); exact ht q; exact hx0 q)] at hS3
            by_cases h64 : 64 < t.length
            · rw [if_pos h64] at hS3
              have i3 : (64 : Int) < ((bs t).size : Int) := by rw [hsz]; omega
              have hfin : Hid (Fs.right l = 4) := by show _ = _; rw [hR.out, ← hS3]
              clear ht hem hcmp2 hsz hS3 h64
              generalize bs t = T at *
              go_wp2_with fail
              go_ret
              exact ⟨by rw [hfin.out]; rfl, HBA.out⟩
            · rw [if_neg h64] at hS3
              have i3 : ¬ (64 : Int) < ((bs t).size : Int) := by rw [hsz]; omega
              cases hlt : Fs.lt A t
              · rw [if_pos hlt] at hS3
                rw [hlt] at hcmp2
                have hfin : Hid (Fs.right l = 3) := by show _ = _; rw [hR.out, ← hS3]
                clear ht hem hsz hS3 h64 hlt
                generalize bs t = T at *
                generalize bs A = U at *
                go_wp2_with fail
                go_ret
                exact ⟨by rw [hfin.out]; rfl, HBA.out⟩
              · rw [if_neg (by rw [hlt]; simp)] at hS3
                rw [hlt] at hcmp2
                have HS3 := Lib.hid hS3
                obtain ⟨T, hT⟩ : ∃ T, bs t = T := ⟨_, rfl⟩
                have HT := Lib.hid hT
                rw [hT] at he hcmp2 i3 c1 HBA
                clear ht hem hsz hS3 h64 hlt hT
                generalize bs A = U at *
                go_wp2_with fail
                go_roundg (n - (k + 1))
                case rel => exact ⟨k + 1, t, by omega, rfl, by go_num, by rw [HT.out], HS3.out, HBA.out⟩
                case measure => omega
      · obtain rfl : k = n := by omega
        have hd : l.drop k = [] := List.drop_of_length_le (by rw [← HN.out]; exact Nat.le_refl _)
        have hS2 := hS.out
        rw [hd] at hS2
        have hfin : Hid (Fs.right l = 0) := by show _ = _; rw [hR.out, ← hS2]; rfl
        have HBE := Lib.hid hbel
        clear hS hS2 hd hbel
        go_wp2_with fail
        go_ret
        exact ⟨by rw [hfin.out]; rfl, HBE.out⟩
end Go.Proofs.Ytdjiknakbldggaa

/-
  The document's own functions over terms: Right, least, same.
-/
namespace Go.Proofs.Ytdjiknakbldggaa
open Go.RowKit

set_option maxRecDepth 100000 in
set_option maxHeartbeats 4000000 in
/-- What Right answers. -/
theorem right_any (w : World) (v : Value) (l : List Fs.En) (h : EnS w v l) :
    Calls Try.prog 16 #[v] w fun e w' => e = .returned (.int .i64 (Fs.right l)) ∧ Below w.heap.size w w' := by
  obtain ⟨a, cap, rfl, hx, hx', hu⟩ := h
  have HU := Lib.hid hu
  obtain ⟨n, hn⟩ : ∃ n, n = l.length := ⟨_, rfl⟩
  have HN := Lib.hid hn
  rw [← hn] at hx ⊢
  clear hu
  by_cases hbig : 65536 < n
  · have hR : Hid (Fs.right l = 8) := by show _ = _; unfold Fs.right; rw [if_pos (by omega)]
    have i1 : (65536 : Int) < (n : Int) := by omega
    clear hn hbig
    go_enter Try.func16, Try.ntmps16
    go_wp2_with fail
    go_ret
    exact ⟨by rw [hR.out]; rfl, Below.refl _ _⟩
  · have hR : Hid (Fs.right l = Fs.rightF [] l) := by show _ = _; unfold Fs.right; rw [if_neg (by omega)]
    have i1 : ¬ (65536 : Int) < (n : Int) := by omega
    have hn2 : n ≤ 65536 := by omega
    clear hn hbig
    go_enter Try.func16, Try.ntmps16
    go_wp2_with fail
    go_loopg [3] n (fun g i wx => ∃ (k : Nat) (A : List UInt8), k ≤ n ∧ g = n - k ∧ i = .int .i64 k ∧ Hid (k = 0 → A = []) ∧ Hid (∀ (j : Nat) (hj : j < l.length), j + 1 = k → l[j].1 = A) ∧ Hid (Fs.rightF A (l.drop k) = Fs.rightF [] l) ∧ Below w.heap.size w wx)
    case atStart => exact ⟨0, [], Nat.zero_le _, rfl, rfl, fun _ => rfl, fun j hj e => by omega, by show _ = _; rw [List.drop_zero], Below.refl _ _⟩
    case round =>
      obtain ⟨k, A, hk, rfl, rfl, hA0, hA, hS, hbel⟩ := hrel
      by_cases hkn : k < n
      · have i2 : (k : Int) < (n : Int) := by omega
        have kx : k < l.length := by rw [← HN.out]; exact hkn
        obtain ⟨g, o, rfl, hg, hcu⟩ := HU.out (by omega)
        have c1 : wr.cell? ⟨g, o + k * 2, none⟩ = some (.string (bs l[k].1)) := ((hcu.below hbel hg) k kx).1
        have c2 : wr.cell? ⟨g, o + k * 2 + 1, none⟩ = some (.int .i64 l[k].2) := ((hcu.below hbel hg) k kx).2
        have C3 : Hid (0 < k → wr.cell? ⟨g, o + (k - 1) * 2, none⟩ = some (.string (bs A))) := fun h0 => by
          have h1 := ((hcu.below hbel hg) (k - 1) (by omega)).1
          rw [hA.out (k - 1) (by omega) (by omega)] at h1
          exact h1
        have HBE := Lib.hid hbel
        have hS2 := hS.out
        rw [drop_en kx] at hS2
        rw [rightF_cons] at hS2
        have HS2 := Lib.hid hS2
        have hsz := bs_size l[k].1
        have hem := bs_empty l[k].1
        have hcmp := leq_lt l[k].1 A
        have hcmp2 : (Op.bytesLess (bs l[k].1).toList (bs A).toList || (bs l[k].1).toList == (bs A).toList) = !Fs.lt A l[k].1 := by rw [bs_list, bs_list]; exact hcmp
        have hlast : Hid (∀ (j : Nat) (hj : j < l.length), j + 1 = k + 1 → l[j].1 = l[k].1) := fun j hj e => by obtain rfl : j = k := by omega
                                                                                                                rfl
        clear hS hS2 hbel hcu hcmp hA
        generalize l[k].1 = t at *
        generalize l[k].2 = x at *
        by_cases ht : t = []
        · have he : (bs t).toList.isEmpty = true := by rw [hem, ht]; rfl
          have hfin : Hid (Fs.right l = 1) := by show _ = _; rw [hR.out, ← HS2.out, if_pos (.inl ht)]
          clear ht hem hcmp2 hsz
          generalize bs t = T at *
          go_wp2_with fail
          go_ret
          exact ⟨by rw [hfin.out]; rfl, HBE.out⟩
        · have he : (bs t).toList.isEmpty = false := by rw [hem]; cases t with | nil => exact absurd rfl ht | cons _ _ => rfl
          by_cases hx0 : x < 0
          · have hfin : Hid (Fs.right l = 1) := by show _ = _; rw [hR.out, ← HS2.out, if_pos (.inr hx0)]
            clear ht hem hcmp2 hsz
            generalize bs t = T at *
            go_wp2_with fail
            go_ret
            exact ⟨by rw [hfin.out]; rfl, HBE.out⟩
          · have hS3 := HS2.out
            rw [if_neg (by rintro (q | q); exact ht q; exact hx0 q)] at hS3
            by_cases h64 : 64 < t.length
            · rw [if_pos h64] at hS3
              have i3 : (64 : Int) < ((bs t).size : Int) := by rw [hsz]; omega
              have hfin : Hid (Fs.right l = 4) := by show _ = _; rw [hR.out, ← hS3]
              clear ht hem hcmp2 hsz hS3 h64
              generalize bs t = T at *
              go_wp2_with fail
              go_ret
              exact ⟨by rw [hfin.out]; rfl, HBE.out⟩
            · rw [if_neg h64] at hS3
              have i3 : ¬ (64 : Int) < ((bs t).size : Int) := by rw [hsz]; omega
              have hlt0 : Hid (k = 0 → Fs.lt A t = true) := fun h0 => by rw [hA0.out h0]; exact Fs.lt_nil ht
              rcases Nat.eq_zero_or_pos k with h0 | h0
              · subst h0
                rw [hlt0.out rfl, if_neg (by simp)] at hS3
                have HS3 := Lib.hid hS3
                clear ht hem hsz hS3 h64 hcmp2
                simp only [Nat.zero_mul, Nat.add_zero] at c1 c2
                generalize bs t = T at *
                generalize bs A = U at *
                go_wp2_with fail
                go_quiet (fail)
                go_wp2_with fail
                go_roundg (n - 1)
                case rel => exact ⟨1, t, by omega, rfl, by go_num, fun h => by omega, hlast, HS3.out, by first | exact HBE.out | exact belowN HBE.out _⟩
                case measure => omega
              · have c3 := C3.out h0
                have i4 : (0 : Int) < (k : Int) := by omega
                cases hlt : Fs.lt A t
                · rw [if_pos hlt] at hS3
                  rw [hlt] at hcmp2
                  have hfin : Hid (Fs.right l = 3) := by show _ = _; rw [hR.out, ← hS3]
                  clear ht hem hsz hS3 h64 hlt
                  generalize bs t = T at *
                  generalize bs A = U at *
                  go_wp2_with fail
                  go_quiet (fail)
                  go_wp2_with fail
                  go_ret
                  exact ⟨by rw [hfin.out]; rfl, by first | exact HBE.out | exact belowN HBE.out _⟩
                · rw [if_neg (by rw [hlt]; simp)] at hS3
                  rw [hlt] at hcmp2
                  have HS3 := Lib.hid hS3
                  clear ht hem hsz hS3 h64 hlt
                  generalize bs t = T at *
                  generalize bs A = U at *
                  go_wp2_with fail
                  go_quiet (fail)
                  go_wp2_with fail
                  go_roundg (n - (k + 1))
                  case rel => exact ⟨k + 1, t, by omega, rfl, by go_num, fun h => by omega, hlast, HS3.out, by first | exact HBE.out | exact belowN HBE.out _⟩
                  case measure => omega
      · obtain rfl : k = n := by omega
        have hd : l.drop k = [] := List.drop_of_length_le (by rw [← HN.out]; exact Nat.le_refl _)
        have hS2 := hS.out
        rw [hd] at hS2
        have hfin : Hid (Fs.right l = 0) := by show _ = _; rw [hR.out, ← hS2]; rfl
        have HBE := Lib.hid hbel
        clear hS hS2 hd hbel
        go_wp2_with fail
        go_ret
        exact ⟨by rw [hfin.out]; rfl, HBE.out⟩

theorem least_take (l : List Fs.En) (k : Nat) (h0 : 0 < k) (h : k < l.length) : Fs.least (l.take (k + 1)) = min (Fs.least (l.take k)) l[k].2 := by
  rw [List.take_succ_eq_append_getElem h, Fs.least_append _ _ (by
    intro q
    have := congrArg List.length q
    rw [List.length_take, List.length_nil] at this
    omega) (by simp)]
  rfl
set_option maxRecDepth 100000 in
set_option maxHeartbeats 4000000 in
/-- The least number. -/
theorem least_any (w : World) (v : Value) (l : List Fs.En) (h : EnS w v l) (h0 : 0 < l.length) :
    Calls Try.prog 48 #[v] w fun e w' => e = .returned (.int .i64 (Fs.least l)) ∧ w' = w := by
  obtain ⟨a, cap, rfl, hx, hx', hu⟩ := h
  obtain ⟨g, o, rfl, hg, hcu⟩ := hu h0
  have HC := Lib.hid hcu
  have c0 : w.cell? ⟨g, o + 1, none⟩ = some (.int .i64 l[0].2) := by have := (hcu 0 h0).2; simpa using this
  have hS0 : Hid (Fs.least (l.take 1) = l[0].2) := by
    show _ = _
    cases l with
    | nil => simp at h0
    | cons e l => rfl
  obtain ⟨n, hn⟩ : ∃ n, n = l.length := ⟨_, rfl⟩
  have HN := Lib.hid hn
  rw [← hn] at hx h0 ⊢
  have i0 : (0 : Int) < (n : Int) := by omega
  clear hu hn hcu
  generalize hx0 : l[0].2 = x0 at *
  clear hx0
  go_enter Try.func48, Try.ntmps48
  go_wp2_with fail
  go_loopg [3, 4] n (fun gg m i wx => ∃ (k : Nat) (x : Int), k ≤ n ∧ gg = n - k ∧ i = .int .i64 k ∧ m = .int .i64 x ∧ Hid (Fs.least (l.take (max k 1)) = x) ∧ wx = w)
  case atStart => exact ⟨0, x0, Nat.zero_le _, rfl, rfl, rfl, hS0.out, rfl⟩
  case round =>
    obtain ⟨k, x, hk, rfl, rfl, rfl, hS, rfl⟩ := hrel
    by_cases hkn : k < n
    · have i2 : (k : Int) < (n : Int) := by omega
      have kx : k < l.length := by rw [← HN.out]; exact hkn
      have c2 : wr.cell? ⟨g, o + k * 2 + 1, none⟩ = some (.int .i64 l[k].2) := (HC.out k kx).2
      have hst : Hid (Fs.least (l.take (max (k + 1) 1)) = min x l[k].2) := by
        show _ = _
        rw [Nat.max_eq_left (by omega)]
        rcases Nat.eq_zero_or_pos k with h | h
        · subst h
          have h1 := hS.out
          simp only [Nat.zero_le, Nat.max_eq_right] at h1
          have h2 : Fs.least (l.take 1) = l[0].2 := by
            cases l with
            | nil => simp at kx
            | cons e l => rfl
          rw [← h1, h2]
          omega
        · have h1 := hS.out
          rw [Nat.max_eq_left (by omega)] at h1
          rw [least_take l k h kx, h1]
      clear hS
      generalize l[k].2 = y at *
      by_cases hlt : y < x
      · have hst2 : Hid (Fs.least (l.take (max (k + 1) 1)) = y) := by show _ = _; rw [hst.out]; omega
        clear hst
        go_wp2_with fail
        go_roundg (n - (k + 1))
        case rel => exact ⟨k + 1, y, by omega, rfl, by go_num, rfl, hst2, rfl⟩
        case measure => omega
      · have hst2 : Hid (Fs.least (l.take (max (k + 1) 1)) = x) := by show _ = _; rw [hst.out]; omega
        clear hst
        go_wp2_with fail
        go_roundg (n - (k + 1))
        case rel => exact ⟨k + 1, x, by omega, rfl, by go_num, rfl, hst2, rfl⟩
        case measure => omega
    · obtain rfl : k = n := by omega
      have hfin : Hid (Fs.least l = x) := by
        show _ = _
        have h1 := hS.out
        rw [Nat.max_eq_left (by omega), List.take_of_length_le (by rw [← HN.out]; exact Nat.le_refl _)] at h1
        exact h1
      clear hS
      go_wp2_with fail
      go_ret
      exact ⟨by rw [hfin.out]; rfl, rfl⟩

theorem takeE_snoc {xs ys : List Fs.En} {k : Nat} (h1 : k < xs.length) (h2 : k < ys.length) (h : xs.take k = ys.take k) (e : xs[k] = ys[k]) : xs.take (k + 1) = ys.take (k + 1) := by
  rw [List.take_succ_eq_append_getElem h1, List.take_succ_eq_append_getElem h2, h, e]
/-- A world that parts from another in draws alone. -/
def Drew (w w' : World) : Prop := ∃ q, w' = w.drewN q
theorem Drew.refl (w : World) : Drew w w := ⟨0, rfl⟩
theorem Drew.trans {w w' w'' : World} (h : Drew w w') (k : Drew w' w'') : Drew w w'' := by
  obtain ⟨p, rfl⟩ := h
  obtain ⟨q, rfl⟩ := k
  exact ⟨p + q, by simp [World.drewN_drewN]⟩
theorem Drew.below {w w' : World} (h : Drew w w') : Below w.heap.size w w' := by obtain ⟨q, rfl⟩ := h; exact belowN (Below.refl _ _) q
theorem Drew.heap {w w' : World} (h : Drew w w') : w'.heap = w.heap := by obtain ⟨q, rfl⟩ := h; rfl
set_option maxRecDepth 100000 in
set_option maxHeartbeats 1000000 in
/-- Whether two lists are alike. -/
theorem same_any (w : World) (u v : Value) (xs ys : List Fs.En) (hu : EnS w u xs) (hv : EnS w v ys) :
    Calls Try.prog 32 #[u, v] w fun e' w' => e' = .returned (.bool (decide (xs = ys))) ∧ Below w.heap.size w w' := by
  obtain ⟨a, cap, rfl, hx, hx', hu⟩ := hu
  obtain ⟨a', cap', rfl, hy, hy', hv⟩ := hv
  have hx2 : xs.length ≤ 9223372036854775807 := by omega
  have HU := Lib.hid hu
  have HV := Lib.hid hv
  clear hu hv hx hx' hy hy'
  by_cases hl : xs.length = ys.length
  · obtain ⟨n, hn⟩ : ∃ n, n = xs.length := ⟨_, rfl⟩
    have hn2 : ys.length = n := by omega
    have HN := Lib.hid hn
    have HN2 := Lib.hid hn2
    rw [← hn] at hx2 ⊢
    rw [hn2]
    clear hl hn hn2
    go_enter Try.func32, Try.ntmps32
    go_wp2_with fail
    go_loopg [5] n (fun g i wx => ∃ k : Nat, k ≤ n ∧ g = n - k ∧ i = .int .i64 k ∧ Hid (xs.take k = ys.take k) ∧ Below w.heap.size w wx)
    case atStart => exact ⟨0, Nat.zero_le _, rfl, rfl, by show _ = _; rw [List.take_zero, List.take_zero], Below.refl _ _⟩
    case round =>
      obtain ⟨k, hk, rfl, rfl, hS, hbel⟩ := hrel
      by_cases hkn : k < n
      · have i1 : (k : Int) < (n : Int) := by omega
        have kx : k < xs.length := by rw [← HN.out]; exact hkn
        have ky : k < ys.length := by rw [HN2.out]; exact hkn
        obtain ⟨g, o, rfl, hg, hcu⟩ := HU.out (by omega)
        obtain ⟨g', o', rfl, hg', hcv⟩ := HV.out (by omega)
        obtain ⟨c1, c2⟩ := (hcu.below hbel hg) k kx
        obtain ⟨c3, c4⟩ := (hcv.below hbel hg') k ky
        have HBE := Lib.hid hbel
        by_cases he : xs[k] = ys[k]
        · have hst : Hid (xs.take (k + 1) = ys.take (k + 1)) := takeE_snoc kx ky hS.out he
          rw [← he] at c3 c4
          clear hS he hcu hcv hbel
          generalize bs xs[k].1 = x at *
          generalize xs[k].2 = xn at *
          go_wp2_with fail
          go_quiet (fail)
          go_wp2_with fail
          go_roundg (n - (k + 1))
          case rel => exact ⟨k + 1, by omega, rfl, by go_num, hst, by first | exact HBE.out | exact belowN HBE.out _⟩
          case measure => omega
        · have hfin : Hid (decide (xs = ys) = false) := decide_eq_false (fun h => he (by subst h; rfl))
          clear hS hcu hcv hbel
          generalize xs[k] = x at *
          generalize ys[k] = y at *
          obtain ⟨xs', xn⟩ := x
          obtain ⟨ys', yn⟩ := y
          dsimp only at c1 c2 c3 c4
          by_cases h1 : xs' = ys'
          · subst h1
            have he' : (xn == yn) = false := by
              simp only [Prod.mk.injEq, true_and] at he
              simpa using he
            clear he
            generalize bs xs' = x at *
            go_wp2_with fail
            go_quiet (fail)
            go_wp2_with fail
            go_ret
            exact ⟨by rw [hfin.out]; rfl, by first | exact HBE.out | exact belowN HBE.out _⟩
          · have he' : ((bs xs').toList == (bs ys').toList) = false := by
              rw [bs_list, bs_list, beq_eq_false_iff_ne]
              exact h1
            clear he h1
            generalize bs xs' = x at *
            generalize bs ys' = y at *
            go_wp2_with fail
            go_quiet (fail)
            go_wp2_with fail
            go_ret
            exact ⟨by rw [hfin.out]; rfl, by first | exact HBE.out | exact belowN HBE.out _⟩
      · have hfin : Hid (decide (xs = ys) = true) := by
          obtain rfl : k = n := by omega
          have h := hS.out
          rw [List.take_of_length_le (by rw [← HN.out]; exact Nat.le_refl _), List.take_of_length_le (by rw [HN2.out]; exact Nat.le_refl _)] at h
          exact decide_eq_true h
        have HBE := Lib.hid hbel
        clear hS hbel
        go_wp2_with fail
        go_ret
        exact ⟨by rw [hfin.out]; rfl, HBE.out⟩
  · have hfin : Hid (decide (xs = ys) = false) := decide_eq_false (fun h => hl (by rw [h]))
    have hl' : ((xs.length : Int) != (ys.length : Int)) = true := by simp; omega
    go_enter Try.func32, Try.ntmps32
    go_wp2_with fail
    go_ret
    exact ⟨by rw [hfin.out]; rfl, Below.refl _ _⟩
set_option maxRecDepth 100000 in
set_option maxHeartbeats 1000000 in
theorem sameS_any (w : World) (u v : Value) (xs ys : List Fs.En) (hu : EnS w u xs) (hv : EnS w v ys) :
    Calls Try.prog 12 #[u, v] w fun e' w' => e' = .returned (.bool (decide (xs = ys))) ∧ Below w.heap.size w w' := by
  have H := Lib.hid (same_any w u v xs ys hu hv)
  clear hu hv
  go_enter Try.func12, Try.ntmps12
  go_wp2_with (refine H.out.mono ?_; rintro e1 w1 ⟨rfl, hb⟩)
  go_ret
  exact ⟨rfl, hb⟩
end Go.Proofs.Ytdjiknakbldggaa

/-
  append of one element onto a list of the call's own, in a region that draws its order and in one that doesn't.
-/
namespace Go.Proofs.Ytdjiknakbldggaa
open Go.RowKit

/-- Nothing has turned but the list's own block; the list lies there still, or in a new block. -/
structure Grew (w w' : World) (v v' : Value) : Prop where
  kept : KeptF (fun k => v.ownBlock = some k) w w'
  at' : ∀ b, v'.ownBlock = some b → v.ownBlock = some b ∨ w.heap.size ≤ b
theorem Grew.far {w w' : World} {v v' : Value} (h : Grew w w' v v') {k : Nat} (hk : k < w.heap.size) (hv : v.ownBlock ≠ some k) : w'.heap[k]? = w.heap[k]? := h.kept.block k hk hv
theorem Grew.below {B : Nat} {w0 w w' : World} {v v' : Value} (h : Grew w w' v v') (hb : Below B w0 w) (hB : B ≤ w.heap.size) (hv : ∀ k, v.ownBlock = some k → B ≤ k) : Below B w0 w' := h.kept.below hb hv hB
theorem new_cells (w : World) (cs : List Value) (e : TypeId) : ∀ j u, cs[j]? = some u → (w.alloc (.cells cs.toArray e)).cell? ((⟨w.heap.size, 0, none⟩ : Addr).add j) = some u := by
  intro j u hj
  have h1 : (w.alloc (.cells cs.toArray e)).heap[w.heap.size]? = some (.cells cs.toArray e (0, 0)) := Go.Deep.blk_alloc_new _ _
  rw [Addr.add_lit, Nat.zero_add]
  simp only [World.cell?, h1]
  simp [hj]
theorem one_of {l : List Value} (h : l.all (fun u => u.oneCell') = true) : ∀ u ∈ l, u.oneCell' = true := fun u hu => List.all_eq_true.1 h u hu
theorem grew_of {w W0 w' : World} {B : Nat} {e : TypeId} {z n g cap : Nat} {v : Value} {xs ys : List Value} (h : w.ownsRow B e z v n xs) (hB : B ≤ w.heap.size) (hW : Below w.heap.size w W0)
    (h1 : w'.ownsRow 0 e z (.slice (some ⟨g, 0, none⟩) (n + 1) cap) (n + 1) ys) (h2 : W0.grownBy w' v.ownBlock) (h3 : v.ownBlock = some g ∨ g = W0.heap.size) :
    w'.ownsRow B e z (.slice (some ⟨g, 0, none⟩) (n + 1) cap) (n + 1) ys ∧ Grew w w' v (.slice (some ⟨g, 0, none⟩) (n + 1) cap) := by
  have hs := hW.size
  refine ⟨⟨h1.1, ?_⟩, ⟨h2.os.trans hW.os, h2.tape.trans hW.tape, h2.output.trans hW.output, Nat.le_trans hs h2.size, fun k hk hf => (h2.block k (Nat.lt_of_lt_of_le hk hs) (fun q => hf q.symm)).trans (hW.block k hk)⟩, fun b hb => ?_⟩
  · rcases h1.2 with ⟨q, _⟩ | ⟨g', cap', cur, q, hg, hr⟩
    · cases q
    · simp only [Value.slice.injEq, Option.some.injEq, Addr.mk.injEq, and_true, true_and] at q
      obtain ⟨rfl, rfl⟩ := q
      refine .inr ⟨g, cap, cur, rfl, ?_, hr⟩
      rcases h3 with h3 | h3
      · exact (h.lt g h3).1
      · omega
  · obtain rfl : g = b := by simpa [Value.ownBlock] using hb
    rcases h3 with h3 | h3
    · exact .inl h3
    · exact .inr (by omega)
section
variable {ops : Array Oper} {rest : List Oper} {o : Oper} {a : Act}
/-- 'append(v, x)' of one element, whose cells lie in a new block. -/
theorem wpList_pushR {Q : Exit → Act → World → Prop} {w : World} (hgd : o.guard = none) (s x : Operand) (t e : TypeId)
    (ho : o.op = .call { callee := .builtin .append, args := #[s, x], argTypes := #[t, t] }) (i : TypeInfo) (zv : Value) (z bytes : Nat) (ht : Try.prog.underlying t = some (.slice e)) (hi : Try.prog.info? e = some i) (hz : i.zero = some zv)
    (hsize : i.size = z) (hby : i.bytes = bytes) (hzs : zv.cells.size = z) (hz0 : 0 < z) (B : Nat) (hB : B ≤ w.heap.size) (v : Value) (n : Nat) (xs : List Value) (hs : a.eval s = v) (h : w.ownsRow B e z v n xs) (cs : List Value) (hcs : cs.length = z) (h1 : ∀ u ∈ cs, u.oneCell' = true)
    (hx : a.eval x = .slice (some ⟨w.heap.size, 0, none⟩) 1 1) (hb : (n + 1) * bytes ≤ 140737488355328) (hb2 : n + 1 ≤ 140737488355328)
    (hk : ∀ g cap w', w'.ownsRow B e z (.slice (some ⟨g, 0, none⟩) (n + 1) cap) (n + 1) (xs ++ cs) → Grew w w' v (.slice (some ⟨g, 0, none⟩) (n + 1) cap) → wpList Try.prog ops Q rest (a.put o.dst (.slice (some ⟨g, 0, none⟩) (n + 1) cap)) w') :
    wpList Try.prog ops Q (o :: rest) a (w.alloc (.cells cs.toArray e)) := by
  refine wpList_append_lies _ hgd s x t ho 0 e i zv z bytes ht hi hz hsize hby hzs hz0 v n xs hs (ownsRow_base (h.alloc _) (Nat.zero_le _)) ⟨w.heap.size, 0, none⟩ 1 1 cs hx (by rw [hcs, Nat.one_mul]) (new_cells w cs e) h1 (by omega) (by unfold maxLen; omega) hb (by omega) _ rfl ?_
  intro g cap w' h2 h3 h4 _
  obtain ⟨k1, k2⟩ := grew_of h hB ((Below.refl _ _).alloc (Nat.le_refl _) _) h2 h3 h4
  exact hk g cap w' k1 k2
/-- The same at a step of a region that draws its order. -/
theorem step_pushR {K : Act → World → Prop} {Q : Exit → Act → World → Prop} {E : Prop} {w W0 : World} (hgd : o.guard = none) (s x : Operand) (t e : TypeId)
    (ho : o.op = .call { callee := .builtin .append, args := #[s, x], argTypes := #[t, t] }) (i : TypeInfo) (zv : Value) (z bytes : Nat) (ht : Try.prog.underlying t = some (.slice e)) (hi : Try.prog.info? e = some i) (hz : i.zero = some zv)
    (hsize : i.size = z) (hby : i.bytes = bytes) (hzs : zv.cells.size = z) (hz0 : 0 < z) (B : Nat) (hB : B ≤ w.heap.size) (v : Value) (n : Nat) (xs : List Value) (hs : a.eval s = v) (h : w.ownsRow B e z v n xs) (hW : Below w.heap.size w W0) (cs : List Value) (hcs : cs.length = z) (h1 : ∀ u ∈ cs, u.oneCell' = true)
    (ad : Addr) (hnews : ∀ j u, cs[j]? = some u → W0.cell? (ad.add j) = some u) (hx : a.eval x = .slice (some ad) 1 1) (hb : (n + 1) * bytes ≤ 140737488355328) (hb2 : n + 1 ≤ 140737488355328)
    (hk : ∀ g cap w', w'.ownsRow B e z (.slice (some ⟨g, 0, none⟩) (n + 1) cap) (n + 1) (xs ++ cs) → Grew w w' v (.slice (some ⟨g, 0, none⟩) (n + 1) cap) → K (a.put o.dst (.slice (some ⟨g, 0, none⟩) (n + 1) cap)) w') :
    if Region.wanted o (yielded ops a.tmps) = true then Oper.wp Try.prog o a W0 K Q else E := by
  refine step_append_lies _ hgd s x t ho 0 e i zv z bytes ht hi hz hsize hby hzs hz0 v n xs hs (ownsRow_base (ownsRow_keep h fun k hk => hW.block k (h.lt k hk).2) (Nat.zero_le _)) ad 1 1 cs hx (by rw [hcs, Nat.one_mul]) hnews h1 (by omega) (by unfold maxLen; omega) hb (by omega) _ rfl ?_
  intro g cap w' h2 h3 h4 _
  obtain ⟨k1, k2⟩ := grew_of h hB hW h2 h3 h4
  exact hk g cap w' k1 k2
end
theorem OwnE.form {w : World} {B : Nat} {v : Value} {l : List Fs.En} (h : OwnE w B v l) : ∃ a cap, v = .slice a l.length cap := by
  obtain ⟨_, a, cap, h1, _⟩ := h.opened
  exact ⟨a, cap, h1⟩
theorem OwnE.lt {w : World} {B : Nat} {v : Value} {l : List Fs.En} (h : OwnE w B v l) : ∀ k, v.ownBlock = some k → B ≤ k ∧ k < w.heap.size := fun k hk => World.ownsRow.lt h k hk
theorem OwnE.push {w : World} {B g cap : Nat} {l : List Fs.En} {x : Fs.En} (h : w.ownsRow B 26 2 (.slice (some ⟨g, 0, none⟩) (l.length + 1) cap) (l.length + 1) (entV l ++ [.string (bs x.1), .int .i64 x.2])) : OwnE w B (.slice (some ⟨g, 0, none⟩) (l.length + 1) cap) (l ++ [x]) := by
  rw [entV_snoc] at h
  unfold OwnE
  simpa using h
end Go.Proofs.Ytdjiknakbldggaa

/-
  What is left behind a byte: the document's rests.
-/
namespace Go.Proofs.Ytdjiknakbldggaa
open Go.RowKit

theorem ret_vI {v : Value} {a b : Int} (h : a = b) : Ending.returned (.tuple #[v, .int .i64 a]) = .returned (.tuple #[v, .int .i64 b]) := by rw [h]
/-- The terms behind a byte; all terms, if it is none. -/
def sel (c : Int) (l : List Fs.En) : List Fs.En := if c < 0 then l else Fs.behind l (UInt8.ofNat c.toNat)
theorem sel_all {c : Int} (h : c < 0) (l : List Fs.En) : sel c l = l := if_pos h
theorem sel_byte {c : Int} (h : ¬ c < 0) (l : List Fs.En) : sel c l = Fs.behind l (UInt8.ofNat c.toNat) := if_neg h
theorem sel_snoc_no {c : Int} (h : ¬ c < 0) (l : List Fs.En) (e : Fs.En) (hn : ¬ Fs.hd (UInt8.ofNat c.toNat) e = true) : sel c (l ++ [e]) = sel c l := by
  rw [sel_byte h, sel_byte h, Fs.behind_append, Fs.behind_none (l := [e]) (fun x hx => by rw [List.mem_singleton.1 hx]; exact hn), List.append_nil]
theorem sel_snoc_yes {c : Int} (h : ¬ c < 0) (l : List Fs.En) (t : List UInt8) (o : Int) : sel c (l ++ [(UInt8.ofNat c.toNat :: t, o)]) = sel c l ++ [(t, o)] := by
  rw [sel_byte h, sel_byte h, Fs.behind_append]
  congr 1
  simp [Fs.behind]
theorem sel_length (c : Int) (l : List Fs.En) : (sel c l).length ≤ l.length := by
  unfold sel
  split
  · exact Nat.le_refl _
  · exact Fs.behind_length _ _
theorem sel_lw {c : Int} {l : List Fs.En} (h : Fs.Lw l) : Fs.Lw (sel c l) := by
  unfold sel
  split
  · exact h
  · exact Fs.behind_lw h _
theorem entV_set : ∀ (l : List Fs.En) (i : Nat) (h : i < l.length) (y : Int), (entV l).set (i * 2 + 1) (.int .i64 y) = entV (l.set i (l[i].1, y))
  | [], i, h, y => by cases h
  | x :: t, 0, _, y => rfl
  | x :: t, i + 1, h, y => by
    have hi : i < t.length := by simpa using h
    have e : (i + 1) * 2 + 1 = i * 2 + 1 + 1 + 1 := by omega
    rw [e]
    show _ :: _ :: (entV t).set (i * 2 + 1) _ = _ :: _ :: entV (t.set i _)
    rw [entV_set t i hi y]
    rfl
/-- The first so many less a number. -/
def part (m : Int) (acc : List Fs.En) (k : Nat) : List Fs.En := (acc.take k).map (fun e => (e.1, e.2 - m)) ++ acc.drop k
theorem part_length (m : Int) (acc : List Fs.En) (k : Nat) : (part m acc k).length = acc.length := by
  unfold part
  rw [List.length_append, List.length_map, List.length_take, List.length_drop]
  omega
theorem part_at (m : Int) (acc : List Fs.En) (k : Nat) (h : k < acc.length) (h' : k < (part m acc k).length) : (part m acc k)[k] = acc[k] := by
  have e : (part m acc k)[k]? = acc[k]? := by
    unfold part
    have hl : ((acc.take k).map (fun e : Fs.En => (e.1, e.2 - m))).length = k := by rw [List.length_map, List.length_take]; omega
    rw [List.getElem?_append_right (by omega), hl, Nat.sub_self, List.getElem?_drop, Nat.add_zero]
  rw [List.getElem?_eq_getElem h', List.getElem?_eq_getElem h] at e
  exact Option.some.inj e
theorem part_set (m : Int) (acc : List Fs.En) (k : Nat) (h : k < acc.length) : (part m acc k).set k (acc[k].1, acc[k].2 - m) = part m acc (k + 1) := by
  unfold part
  have hl : ((acc.take k).map (fun e : Fs.En => (e.1, e.2 - m))).length = k := by rw [List.length_map, List.length_take]; omega
  rw [List.set_append_right _ _ (by omega), hl, Nat.sub_self, List.drop_eq_getElem_cons h, List.set_cons_zero, List.take_succ_eq_append_getElem h, List.map_append, List.append_assoc]
  rfl
theorem part_all (acc : List Fs.En) : part (Fs.least acc) acc acc.length = Fs.low acc := by
  unfold part Fs.low
  rw [List.take_length, List.drop_length, List.append_nil]
/-- What rests answers. -/
def RestPost (w : World) (R : List Fs.En) (e : Ending) (w' : World) : Prop :=
  ∃ v, e = .returned (.tuple #[v, .int .i64 (Fs.least R)]) ∧ OwnE w' w.heap.size v (Fs.low R) ∧ Below w.heap.size w w'

set_option maxRecDepth 100000 in
set_option maxHeartbeats 8000000 in
theorem rests_any (w : World) (v : Value) (l : List Fs.En) (c : Int) (h : EnS w v l) (hc : -1 ≤ c ∧ c < 256) (hlen : l.length ≤ 1073741824) (hlw : Fs.Lw l) :
    Calls Try.prog 29 #[v, .int .i64 c] w (RestPost w (sel c l)) := by
  obtain ⟨a, cap, rfl, hx, hx', hu⟩ := h
  have HU := Lib.hid hu
  have HLW := Lib.hid hlw
  obtain ⟨n, hn⟩ : ∃ n, n = l.length := ⟨_, rfl⟩
  have HN := Lib.hid hn
  rw [← hn] at hx hlen ⊢
  clear hu hlw hn
  obtain ⟨hc1, hc2⟩ := hc
  obtain ⟨ii, hi, hz0, hz1, hz2⟩ := info_parts Try.infoE
  go_enter Try.func29, Try.ntmps29
  go_wp2_with fail
  go_loopg [6, 7] n (fun gg ov i wx => ∃ (k : Nat), k ≤ n ∧ gg = n - k ∧ i = .int .i64 k ∧ OwnE wx w.heap.size ov (sel c (l.take k)) ∧ Below w.heap.size w wx)
  case atStart => exact ⟨0, Nat.zero_le _, rfl, rfl, by rw [List.take_zero, show sel c [] = [] from by unfold sel; split <;> rfl]; exact ownE_nil _ _, Below.refl _ _⟩
  case round =>
    obtain ⟨k, hk, rfl, rfl, hown, hbel⟩ := hrel
    have hsl : (sel c (l.take k)).length ≤ k := Nat.le_trans (sel_length _ _) (List.length_take_le _ _)
    by_cases hkn : k < n
    · have i2 : (k : Int) < (n : Int) := by omega
      have kx : k < l.length := by rw [← HN.out]; exact hkn
      obtain ⟨g, o, rfl, hg, hcu⟩ := HU.out (by omega)
      obtain ⟨c1, c2⟩ := (hcu.below hbel hg) k kx
      have HBE := Lib.hid hbel
      have HSZ := Lib.hid hbel.size
      have HO := Lib.hid hown
      have hst : l.take (k + 1) = l.take k ++ [l[k]] := List.take_succ_eq_append_getElem kx
      have HST := Lib.hid hst
      clear hcu hbel hst hown
      by_cases hcn : c < 0
      · have HR : Hid (sel c (l.take (k + 1)) = sel c (l.take k) ++ [l[k]]) := by show _ = _; rw [sel_all hcn, sel_all hcn, HST.out]
        obtain ⟨t, x, htx⟩ : ∃ t x, l[k] = (t, x) := ⟨_, _, rfl⟩
        rw [htx] at HR
        rw [htx] at c1 c2
        dsimp only at c1 c2
        generalize sel c (l.take k) = acc at *
        obtain ⟨a6, c6, hv6⟩ := HO.out.form
        subst hv6
        go_wp2_with (at_builtin; go_loud ((refine wpList_pushR rfl _ _ 22 26 rfl ii _ 2 24 Try.underlying22 hi hz0 hz1 hz2 rfl (by decide) w.heap.size HSZ.out (.slice a6 acc.length c6) acc.length (entV acc) rfl HO.out [.string (bs t), .int .i64 x] rfl (one_of rfl) rfl (by omega) (by omega) ?_; intro g5 cap5 w5 hown5 hgr5)))
        have HO5 : Hid (OwnE w5 w.heap.size (.slice (some ⟨g5, 0, none⟩) (acc.length + 1) cap5) (sel c (l.take (k + 1)))) := by show OwnE _ _ _ _; rw [HR.out]; exact OwnE.push hown5
        have HB5 : Hid (Below w.heap.size w w5) := hgr5.below HBE.out HSZ.out fun k hk => (HO.out.lt k hk).1
        clear hown5 hgr5
        go_wp2_with fail
        go_roundg (n - (k + 1))
        case rel => exact ⟨k + 1, by omega, rfl, by go_num, HO5.out, HB5.out⟩
        case measure => omega
      · have i3 : ¬ c < 0 := hcn
        obtain ⟨t, x, htx⟩ : ∃ t x, l[k] = (t, x) := ⟨_, _, rfl⟩
        rw [htx] at c1 c2
        dsimp only at c1 c2
        have hsz := bs_size t
        cases t with
        | nil =>
          have i4 : ¬ (0 : Int) < ((bs []).size : Int) := by rw [hsz]; simp
          have HR : Hid (OwnE wr w.heap.size u6 (sel c (l.take (k + 1)))) := by
            show OwnE _ _ _ _
            rw [HST.out, htx, sel_snoc_no hcn _ _ (by simp [Fs.hd])]
            exact HO.out
          clear hsz htx HO
          generalize bs [] = T at *
          go_wp2_with fail
          go_roundg (n - (k + 1))
          case rel => exact ⟨k + 1, by omega, rfl, by go_num, HR.out, HBE.out⟩
          case measure => omega
        | cons b t =>
          have i4 : (0 : Int) < ((bs (b :: t)).size : Int) := by rw [hsz, List.length_cons]; omega
          have i5 : 0 < (bs (b :: t)).size := by omega
          have hb0 : (bs (b :: t))[0] = b := bs_get _ 0 i5 (by simp)
          have hbl := b.toNat_lt
          have hcut : (bs (b :: t)).extract 1 (bs (b :: t)).size = bs t := by
            have := bs_cut (b :: t) 1 t.length
            rw [hsz]
            rw [show (b :: t).length = 1 + t.length by rw [List.length_cons]; omega, this]
            rw [List.drop_succ_cons, List.drop_zero, List.take_length]
          by_cases he : (b.toNat : Int) = c
          · have hbc : b = UInt8.ofNat c.toNat := by rw [← he]; simp
            have HR : Hid (sel c (l.take (k + 1)) = sel c (l.take k) ++ [(t, x)]) := by
              show _ = _
              rw [HST.out, htx, hbc, sel_snoc_yes hcn]
            have he' : ((b.toNat : Int) == c) = true := by simpa using he
            generalize sel c (l.take k) = acc at *
            obtain ⟨a6, c6, hv6⟩ := HO.out.form
            subst hv6
            have d1 : wr.drew.cell? ⟨g, o + k * 2, none⟩ = some (.string (bs (b :: t))) := c1
            have d2 : wr.drew.cell? ⟨g, o + k * 2 + 1, none⟩ = some (.int .i64 x) := c2
            obtain ⟨T2, hT2⟩ : ∃ T2, bs t = T2 := ⟨_, rfl⟩
            have HT2 := Lib.hid hT2
            rw [hT2] at hcut
            have hg2 : g < wr.heap.size := Nat.lt_of_lt_of_le hg HBE.out.size
            obtain ⟨m, hm⟩ : ∃ m, (bs (b :: t)).size = m := ⟨_, rfl⟩
            have i6 : (1 : Int) ≤ (m : Int) := by rw [← hm]; omega
            clear hbc htx he hT2 hsz
            generalize bs (b :: t) = T at *
            rw [hm] at hcut i4
            go_wp2_with fail
            have e1 : (wr.alloc (.cells #[.string T2, .int .i64 x] 26)).drew.cell? ⟨g, o + k * 2, none⟩ = some (.string T) := (((Below.refl wr.heap.size wr).alloc (Nat.le_refl _) _).drew.cell (p := ⟨g, o + k * 2, none⟩) hg2).trans c1
            have e2 : (wr.alloc (.cells #[.string T2, .int .i64 x] 26)).drew.cell? ⟨g, o + k * 2 + 1, none⟩ = some (.int .i64 x) := (((Below.refl wr.heap.size wr).alloc (Nat.le_refl _) _).drew.cell (p := ⟨g, o + k * 2 + 1, none⟩) hg2).trans c2
            go_region_law ((refine step_pushR (w := wr) rfl _ _ 22 26 (by rfl) ii _ 2 24 Try.underlying22 hi hz0 hz1 hz2 rfl (by decide) w.heap.size HSZ.out (.slice a6 acc.length c6) acc.length (entV acc) (by rfl) HO.out (by first | exact ((Below.refl _ _).drew).alloc (Nat.le_refl _) _ | exact ((Below.refl _ _).alloc (Nat.le_refl _) _).drew | exact (Below.refl _ _).alloc (Nat.le_refl _) _) [.string T2, .int .i64 x] rfl (one_of rfl) ⟨wr.heap.size, 0, none⟩ (by first | exact new_cells wr _ _ | exact new_cells wr.drew _ _) (by rfl) (by omega) (by omega) ?_; intro g5 cap5 w5 hown5 hgr5; have HOWN5 := Lib.hid hown5; have HGR5 := Lib.hid hgr5; clear hown5 hgr5))
            all_goals
              have HO5 : Hid (OwnE w5 w.heap.size (.slice (some ⟨g5, 0, none⟩) (acc.length + 1) cap5) (sel c (l.take (k + 1)))) := by show OwnE _ _ _ _; rw [HR.out]; have h5 := HOWN5.out; rw [← HT2.out] at h5; exact OwnE.push (x := (t, x)) h5
              have HB5 : Hid (Below w.heap.size w w5) := HGR5.out.below HBE.out HSZ.out fun k hk => (HO.out.lt k hk).1
              clear HOWN5 HGR5 HO
              go_wp2_with fail
              go_roundg (n - (k + 1))
              case rel => exact ⟨k + 1, by omega, rfl, by go_num, HO5.out, HB5.out⟩
              case measure => omega
          · have hne : ((b.toNat : Int) == c) = false := by simpa using he
            have HR : Hid (OwnE wr w.heap.size u6 (sel c (l.take (k + 1)))) := by
              show OwnE _ _ _ _
              rw [HST.out, htx, sel_snoc_no hcn _ _ (by
                intro q
                simp only [Fs.hd, beq_iff_eq] at q
                apply he
                rw [q, UInt8.toNat_ofNat']
                omega)]
              exact HO.out
            clear hsz htx HO hcut he
            generalize bs (b :: t) = T at *
            go_wp2_with fail
            go_roundg (n - (k + 1))
            case rel => exact ⟨k + 1, by omega, rfl, by go_num, HR.out, HBE.out⟩
            case measure => omega
    · obtain rfl : k = n := by omega
      have hall : l.take k = l := List.take_of_length_le (by rw [← HN.out]; exact Nat.le_refl _)
      rw [hall] at hown hsl
      have hRl : Fs.Lw (sel c l) := sel_lw HLW.out
      have HBE := Lib.hid hbel
      have HO := Lib.hid hown
      clear hall hbel hown HU
      generalize sel c l = R at *
      rcases Nat.eq_zero_or_pos R.length with h0 | h0
      · obtain rfl : R = [] := List.length_eq_zero_iff.1 h0
        obtain ⟨a6, c6, hv6⟩ := HO.out.form
        subst hv6
        rw [h0]
        go_wp2_with fail
        go_ret2
        exact ⟨_, rfl, ownE_nil _ _, HBE.out⟩
      · have hL := least_any wr _ R HO.out.ens h0
        have hbd := Fs.least_bd hRl
        have HX : Hid (∀ k (hk : k < R.length), Fs.least R ≤ R[k].2 ∧ R[k].2 ≤ 9223372036854775807) := fun k hk => ⟨Fs.least_le (List.getElem_mem hk), (hRl _ (List.getElem_mem hk)).2⟩
        have HF : Hid (part (Fs.least R) R R.length = Fs.low R) := part_all R
        obtain ⟨m, hm⟩ : ∃ m, m = Fs.least R := ⟨_, rfl⟩
        rw [← hm] at hL hbd HX HF
        have HM := Lib.hid hm
        have HLe := Lib.hid hL
        clear hm hL hRl
        unfold Fs.mx at hbd
        obtain ⟨g6, a6, c6, hv6, hc6, hc6', ha6, hB6, _, hcell6, hfr6⟩ := HO.out.opened
        subst hv6
        obtain ⟨rfl, hg6⟩ := ha6 h0
        have i8 : ((R.length : Int) == 0) = false := by rw [beq_eq_false_iff_ne]; omega
        obtain ⟨q, hq⟩ : ∃ q, q = R.length := ⟨_, rfl⟩
        have HQ := Lib.hid hq
        rw [← hq] at h0 hc6 i8 hsl HLe HO ⊢
        clear hcell6 hfr6 hq
        go_wp2_with (go_at_call 48; refine HLe.out.mono ?_; rintro e1 w1 ⟨rfl, rfl⟩)
        go_loopg [9] q (fun gg i wx => ∃ (j : Nat), j ≤ q ∧ gg = q - j ∧ i = .int .i64 j ∧ Hid (OwnE wx w.heap.size (.slice (some ⟨g6, 0, none⟩) q c6) (part m R j)) ∧ Hid (Below w.heap.size w wx))
        case atStart =>
          have e : part m R 0 = R := by unfold part; simp
          exact ⟨0, Nat.zero_le _, rfl, rfl, by show OwnE _ _ _ _; rw [e]; exact HO.out, HBE.out⟩
        case round =>
          obtain ⟨j, hj, rfl, rfl, hO2, hB2⟩ := hrel
          have hpl : (part m R j).length = q := by rw [part_length, HQ.out]
          by_cases hjq : j < q
          · have i9 : (j : Int) < (q : Int) := by omega
            have jx : j < R.length := by rw [← HQ.out]; exact hjq
            have jp : j < (part m R j).length := by omega
            obtain ⟨g7, a7, c7, hv7, _, _, ha7, _, _, hcell7, hfr7⟩ := hO2.out.opened
            have hv7' := hv7
            rw [hpl] at hv7'
            simp only [Value.slice.injEq] at hv7'
            obtain ⟨h71, _, h72⟩ := hv7'
            have h73 := (ha7 (by omega)).1
            rw [h73] at h71
            simp only [Option.some.injEq, Addr.mk.injEq, and_true] at h71
            subst h71
            have c8 := (hcell7 j jp).2
            rw [part_at m R j jx jp, Nat.zero_add] at c8
            have f8 : wr.frozen? ⟨g6, j * 2 + 1, none⟩ = false := hfr7 (by omega) _
            have hx8 := HX.out j jx
            have HSET : Hid (OwnE (wr.setCell ⟨g6, j * 2 + 1, none⟩ (.int .i64 (R[j].2 - m))) w.heap.size (.slice (some ⟨g6, 0, none⟩) q c6) (part m R (j + 1))) := by
              show OwnE _ _ _ _
              have h9 : wr.ownsRow w.heap.size 26 2 (.slice (some ⟨g6, 0, none⟩) q c6) (part m R j).length (entV (part m R j)) := hO2.out
              rw [hpl] at h9
              have h10 := (h9.stored (j * 2 + 1) (.int .i64 (R[j].2 - m))).1
              rw [entV_set _ j jp, part_at m R j jx jp, part_set m R j jx] at h10
              unfold OwnE
              rw [show (part m R (j + 1)).length = q by rw [part_length, HQ.out]]
              exact h10
            have HB3 : Hid (Below w.heap.size w (wr.setCell ⟨g6, j * 2 + 1, none⟩ (.int .i64 (R[j].2 - m)))) := hB2.out.setCell hB6 _
            have hw9 : wrap64 (R[j].2 - m) = R[j].2 - m := by unfold wrap64; omega
            clear hcell7 hfr7 hv7 h72 h73 ha7 hO2 hB2
            generalize R[j].2 = x at *
            go_wp2_with fail
            go_roundg (q - (j + 1))
            case rel => exact ⟨j + 1, by omega, rfl, by go_num, HSET, HB3⟩
            case measure => omega
          · obtain rfl : j = q := by omega
            have hF2 : part m R j = Fs.low R := by rw [HQ.out]; exact HF.out
            have HO3 : Hid (OwnE wr w.heap.size (.slice (some ⟨g6, 0, none⟩) j c6) (Fs.low R)) := by show OwnE _ _ _ _; rw [← hF2]; exact hO2.out
            clear hF2 hO2
            go_wp2_with fail
            go_ret2
            exact ⟨_, ret_vI HM.out, HO3.out, hB2.out⟩
end Go.Proofs.Ytdjiknakbldggaa

/-
  How many of the first terms have the same byte at a place.
-/
namespace Go.Proofs.Ytdjiknakbldggaa
open Go.RowKit

namespace Fs
/-- What is left of terms behind so many bytes. -/
def cut (k : Nat) (l : List En) : List En := l.map fun e => (e.1.drop k, e.2)
theorem cut_length (k : Nat) (l : List En) : (cut k l).length = l.length := List.length_map _
theorem cut_drop (k p : Nat) (l : List En) : cut k (l.drop p) = (cut k l).drop p := by unfold cut; rw [List.map_drop]
theorem cut_take (k p : Nat) (l : List En) : cut k (l.take p) = (cut k l).take p := by unfold cut; rw [List.map_take]
theorem cut_at (k : Nat) (l : List En) (i : Nat) (h : i < l.length) (h' : i < (cut k l).length) : (cut k l)[i] = (l[i].1.drop k, l[i].2) := by simp [cut]
theorem while_len {α : Type} {p : α → Bool} : ∀ {l : List α} {j : Nat}, j ≤ l.length → (∀ i (h : i < l.length), i < j → p l[i] = true) → (∀ (h : j < l.length), p l[j] = false) → (l.takeWhile p).length = j
  | [], j, hj, _, _ => by simp at hj; subst hj; rfl
  | x :: l, 0, _, _, h => by
    have := h (by simp)
    rw [List.getElem_cons_zero] at this
    rw [List.takeWhile_cons, this]
    rfl
  | x :: l, j + 1, hj, ha, h => by
    have h0 := ha 0 (by simp) (by omega)
    rw [List.getElem_cons_zero] at h0
    rw [List.takeWhile_cons, if_pos h0, List.length_cons, while_len (by simpa using hj) (fun i hi hij => by
      have := ha (i + 1) (by simpa using hi) (by omega)
      rwa [List.getElem_cons_succ] at this) (fun hi => by
      have := h (by simpa using hi)
      rwa [List.getElem_cons_succ] at this)]
end Fs
theorem hd_cut {c : UInt8} {k : Nat} {t : List UInt8} {o : Int} (h : k < t.length) : Fs.hd c (t.drop k, o) = (t[k] == c) := by
  rw [List.drop_eq_getElem_cons h]
  rfl

set_option maxRecDepth 100000 in
set_option maxHeartbeats 4000000 in
theorem alike_any (w : World) (v : Value) (l : List Fs.En) (k : Nat) (c : UInt8) (h : EnS w v l) (h0 : 0 < l.length) (hlen : l.length ≤ 1073741824) (hl : ∀ e ∈ l, k < e.1.length) (hc : ∀ h : k < l[0].1.length, l[0].1[k] = c) :
    Calls Try.prog 42 #[v, .int .i64 k] w fun e w' => e = .returned (.int .i64 (Fs.grp c (Fs.cut k l)).length) ∧ Below w.heap.size w w' := by
  obtain ⟨a, cap, rfl, hx, hx', hu⟩ := h
  obtain ⟨g, o, rfl, hg, hcu⟩ := hu h0
  have HCU := Lib.hid hcu
  have HL := Lib.hid hl
  obtain ⟨t0, ht0⟩ : ∃ t0, t0 = l[0].1 := ⟨_, rfl⟩
  have hk0 : k < t0.length := by rw [ht0]; exact hl _ (List.getElem_mem h0)
  have hc0 : t0[k] = c := by subst ht0; exact hc _
  have H0 : Hid (∀ wx, Below w.heap.size w wx → wx.cell? ⟨g, o, none⟩ = some (.string (bs t0))) := fun wx hb => by
    have := (hcu.below hb hg 0 h0).1
    rw [Nat.zero_mul, Nat.add_zero] at this
    rw [ht0]
    exact this
  have HST : Hid (∀ i (h : i < (Fs.cut k l).length), i < 1 → Fs.hd c (Fs.cut k l)[i] = true) := fun i hi h1 => by
    obtain rfl : i = 0 := by omega
    rw [Fs.cut_at k l 0 h0 hi, hd_cut (by rw [← ht0]; exact hk0)]
    subst ht0
    rw [hc0]
    simp
  obtain ⟨n, hn⟩ : ∃ n, n = l.length := ⟨_, rfl⟩
  have HN := Lib.hid hn
  rw [← hn] at hx h0 hlen ⊢
  have s0 : k < (bs t0).size := by rw [bs_size]; exact hk0
  have b0 : (bs t0)[k] = c := (bs_get t0 k s0 hk0).trans hc0
  clear hu hcu hl hc hn ht0 hc0 hk0
  generalize bs t0 = T0 at *
  go_enter Try.func42, Try.ntmps42
  go_wp2_with fail
  go_loopg [5] (n - 1) (fun gg i wx => ∃ (j : Nat), 1 ≤ j ∧ j ≤ n ∧ gg = n - j ∧ i = .int .i64 j ∧ Hid (∀ i (h : i < (Fs.cut k l).length), i < j → Fs.hd c (Fs.cut k l)[i] = true) ∧ Below w.heap.size w wx)
  case atStart => exact ⟨1, Nat.le_refl _, by omega, rfl, rfl, HST, Below.refl _ _⟩
  case round =>
    obtain ⟨j, hj1, hj, rfl, rfl, hS, hbel⟩ := hrel
    by_cases hjn : j < n
    · have i2 : (j : Int) < (n : Int) := by omega
      have jx : j < l.length := by rw [← HN.out]; exact hjn
      have jc : j < (Fs.cut k l).length := by rw [Fs.cut_length]; exact jx
      have c1 := (HCU.out.below hbel hg j jx).1
      have c0 := H0.out wr hbel
      have hkt : k < l[j].1.length := HL.out _ (List.getElem_mem jx)
      have s1 : k < (bs l[j].1).size := by rw [bs_size]; exact hkt
      have hcut := Fs.cut_at k l j jx jc
      obtain ⟨d, hd⟩ : ∃ d, d = l[j].1[k] := ⟨_, rfl⟩
      have hhd : Fs.hd c (l[j].1.drop k, l[j].2) = (d == c) := by subst hd; exact hd_cut hkt
      have b1 : (bs l[j].1)[k] = d := by subst hd; exact bs_get l[j].1 k s1 hkt
      have HBE := Lib.hid hbel
      clear hbel
      rw [← hcut] at hhd
      clear hd hkt hcut
      generalize bs l[j].1 = T1 at *
      by_cases hdc : d = c
      · have HS2 : Hid (∀ i (h : i < (Fs.cut k l).length), i < j + 1 → Fs.hd c (Fs.cut k l)[i] = true) := fun i hi hij => by
          rcases Nat.lt_or_ge i j with q | q
          · exact hS.out i hi q
          · obtain rfl : i = j := by omega
            rw [hhd, hdc]
            simp
        subst hdc
        clear hhd hS
        go_wp2_with fail
        go_quiet (fail)
        go_wp2_with fail
        go_roundg (n - (j + 1))
        case rel => exact ⟨j + 1, by omega, by omega, rfl, by go_num, HS2, by first | exact HBE.out | exact belowN HBE.out _⟩
        case measure => omega
      · have hfin : Hid ((Fs.grp c (Fs.cut k l)).length = j) := Fs.while_len (by omega) hS.out (fun _ => by rw [hhd]; simpa using hdc)
        have hne : ((d.toNat : Int) == (c.toNat : Int)) = false := by
          rw [beq_eq_false_iff_ne]
          intro q
          exact hdc (UInt8.toNat_inj.1 (by omega))
        clear hhd hS hdc
        go_wp2_with fail
        go_quiet (fail)
        go_wp2_with fail
        go_ret
        exact ⟨by rw [hfin.out]; rfl, by first | exact HBE.out | exact belowN HBE.out _⟩
    · obtain rfl : j = n := by omega
      have hfin : Hid ((Fs.grp c (Fs.cut k l)).length = j) := Fs.while_len (by rw [Fs.cut_length, ← HN.out]; exact Nat.le_refl _) hS.out (fun h => by rw [Fs.cut_length, ← HN.out] at h; omega)
      have HBE := Lib.hid hbel
      have c0 := H0.out wr hbel
      clear hS hbel
      go_wp2_with fail
      go_quiet (fail)
      go_wp2_with fail
      go_ret
      exact ⟨by rw [hfin.out]; rfl, by first | exact HBE.out | exact belowN HBE.out _⟩
end Go.Proofs.Ytdjiknakbldggaa

/-
  The bytes of a node, as the program writes them.
-/
namespace Go.Proofs.Ytdjiknakbldggaa
open Go.RowKit

theorem Try.infoW : (Try.prog.info? 55).map (fun i => (i.zero, i.size, i.bytes)) = some (some (.agg #[.int .i64 0, .int .i64 0, .int .i64 0]), 3, 24) := by kernel_rfl
/-- A way: a byte, what it adds, where it leads. -/
abbrev Wy := UInt8 × Int × Nat
def wyV (l : List Wy) : List Value := l.flatMap fun x => [.int .i64 (x.1.toNat : Nat), .int .i64 x.2.1, .int .i64 (x.2.2 : Nat)]
theorem wyV_length (l : List Wy) : (wyV l).length = l.length * 3 := by
  induction l with
  | nil => rfl
  | cons x t ih =>
    show (_ :: _ :: _ :: wyV t).length = _
    simp only [List.length_cons, ih]
    omega
theorem wyV_at (l : List Wy) : ∀ i (h : i < l.length), (wyV l)[i * 3]? = some (.int .i64 (l[i].1.toNat : Nat)) ∧ (wyV l)[i * 3 + 1]? = some (.int .i64 l[i].2.1) ∧ (wyV l)[i * 3 + 2]? = some (.int .i64 (l[i].2.2 : Nat)) := by
  induction l with
  | nil => intro i h; cases h
  | cons x t ih =>
    intro i h
    cases i with
    | zero => exact ⟨rfl, rfl, rfl⟩
    | succ i =>
      simp only [List.length_cons, Nat.add_lt_add_iff_right] at h
      have e : (i + 1) * 3 = i * 3 + 1 + 1 + 1 := by omega
      rw [e]
      exact ih i h
theorem wyV_snoc (l : List Wy) (x : Wy) : wyV l ++ [.int .i64 (x.1.toNat : Nat), .int .i64 x.2.1, .int .i64 (x.2.2 : Nat)] = wyV (l ++ [x]) := by simp [wyV]
/-- The value v is a slice of these ways. -/
def WayS (w : World) (v : Value) (l : List Wy) : Prop :=
  ∃ a cap, v = .slice a l.length cap ∧ l.length ≤ cap ∧ cap ≤ 9223372036854775807 ∧ (0 < l.length → ∃ g, a = some ⟨g, 0, none⟩ ∧ g < w.heap.size ∧ ∀ i (_ : i < l.length), w.cell? ⟨g, i * 3, none⟩ = some (.int .i64 (l[i].1.toNat : Nat)) ∧ w.cell? ⟨g, i * 3 + 1, none⟩ = some (.int .i64 l[i].2.1) ∧ w.cell? ⟨g, i * 3 + 2, none⟩ = some (.int .i64 (l[i].2.2 : Nat)))
theorem WayS.below {w w' : World} {B : Nat} {v : Value} {l : List Wy} (h : WayS w v l) (hb : Below B w w') (hB : w.heap.size ≤ B) : WayS w' v l := by
  obtain ⟨a, cap, h1, h2, h3, h4⟩ := h
  refine ⟨a, cap, h1, h2, h3, fun h0 => ?_⟩
  obtain ⟨g, h5, h6, h7⟩ := h4 h0
  have hg := Nat.lt_of_lt_of_le h6 hB
  exact ⟨g, h5, Nat.lt_of_lt_of_le h6 hb.size, fun i hi => ⟨(hb.cell (p := ⟨g, i * 3, none⟩) hg).trans (h7 i hi).1, (hb.cell (p := ⟨g, i * 3 + 1, none⟩) hg).trans (h7 i hi).2.1, (hb.cell (p := ⟨g, i * 3 + 2, none⟩) hg).trans (h7 i hi).2.2⟩⟩
/-- The slice v is the call's own, from block B on, and holds these ways. -/
def OwnY (w : World) (B : Nat) (v : Value) (l : List Wy) : Prop := w.ownsRow B 55 3 v l.length (wyV l)
theorem OwnY.ways {w : World} {B : Nat} {v : Value} {l : List Wy} (h : OwnY w B v l) : WayS w v l := by
  rcases h.2 with ⟨rfl, h0⟩ | ⟨g, cap, cur, rfl, hg, hh, hnc, hcp, hcs, htake⟩
  · exact ⟨none, 0, by rw [h0], by omega, by omega, fun h => by omega⟩
  · have hown : w.ownsRow B 55 3 (.slice (some ⟨g, 0, none⟩) l.length cap) l.length (wyV l) := h
    have e : ∀ j u, (wyV l)[j]? = some u → w.cell? ⟨g, j, none⟩ = some u := fun j u hj => by
      have h := hown.cells (g := g) rfl j u hj
      rw [Addr.add_lit, Nat.zero_add] at h
      exact h
    refine ⟨_, cap, rfl, hnc, by unfold maxLen at hcp; omega, fun _ => ⟨g, rfl, (hown.lt g rfl).2, fun i hi => ?_⟩⟩
    obtain ⟨a1, a2, a3⟩ := wyV_at l i hi
    exact ⟨e _ _ a1, e _ _ a2, e _ _ a3⟩

/-- Numbers as cells. -/
def intsV (l : List Int) : List Value := l.map (fun c => .int .i64 c)
theorem intsV_length (l : List Int) : (intsV l).length = l.length := by simp [intsV]
theorem intsV_append (l r : List Int) : intsV l ++ intsV r = intsV (l ++ r) := by simp [intsV]
def OwnI (w : World) (B : Nat) (v : Value) (l : List Int) : Prop := w.ownsRow B 3 1 v l.length (intsV l)
theorem ownI_lit (w : World) (zs : List Int) {B : Nat} (hB : B ≤ w.heap.size) (hn : zs.length ≤ 1000) : OwnI (w.alloc (.cells (intsV zs).toArray 3)) B (.slice (some ⟨w.heap.size, 0, none⟩) zs.length zs.length) zs :=
  ⟨by simp [intsV], .inr ⟨w.heap.size, zs.length, _, rfl, hB, Go.Deep.blk_alloc_new _ _, Nat.le_refl _, by unfold maxLen; omega, by simp [intsV], by rw [Nat.mul_one]; exact List.take_of_length_le (by simp [intsV])⟩⟩
theorem OwnI.form {w : World} {B : Nat} {v : Value} {l : List Int} (h : OwnI w B v l) : ∃ a cap, v = .slice a l.length cap ∧ l.length ≤ cap ∧ cap ≤ 9223372036854775807 := by
  rcases h.2 with ⟨rfl, h0⟩ | ⟨g, cap, cur, rfl, hg, hh, hnc, hcp, hcs, htake⟩
  · exact ⟨none, 0, by rw [h0], by omega, by omega⟩
  · exact ⟨_, cap, rfl, hnc, by unfold maxLen at hcp; omega⟩
theorem OwnI.cells {w : World} {B : Nat} {v : Value} {l : List Int} (h : OwnI w B v l) (h0 : 0 < l.length) : ∃ g cap, v = .slice (some ⟨g, 0, none⟩) l.length cap ∧ g < w.heap.size ∧ ∀ j (hj : j < l.length), w.cell? ⟨g, 0 + j, none⟩ = some (.int .i64 l[j]) := by
  rcases h.2 with ⟨rfl, h1⟩ | ⟨g, cap, cur, rfl, hg, hh, hnc, hcp, hcs, htake⟩
  · omega
  · have hown : w.ownsRow B 3 1 (.slice (some ⟨g, 0, none⟩) l.length cap) l.length (intsV l) := h
    refine ⟨g, cap, rfl, (hown.lt g rfl).2, fun j hj => ?_⟩
    rw [Nat.zero_add, hown.cellAt j (by omega)]
    simp [intsV, hj]
/-- The numbers of a node that is told with its terms' own numbers, of which m is the least one. -/
def numsN (fin : Option Int) (ws : List Wy) (m : Int) : List Int := (match fin with
  | some v => [(2 * ws.length : Nat) + 1, v - m]
  | none => [((2 * ws.length : Nat) : Int)]) ++ ws.flatMap fun w => [((w.1.toNat : Nat) : Int), w.2.1 - m, ((w.2.2 : Nat) : Int)]
/-- The node that is told. -/
def lessN (fin : Option Int) (ws : List Wy) (m : Int) : Fs.Nd := (fin.map (· - m), ws.map fun w => (w.1, w.2.1 - m, w.2.2))
theorem numsN_bytes (fin : Option Int) (ws : List Wy) (m : Int) : Pl.numsB (numsN fin ws m) = Fs.bytesN (lessN fin ws m) := by
  have key : ∀ ws : List Wy, Pl.numsB (ws.flatMap fun w => [((w.1.toNat : Nat) : Int), w.2.1 - m, ((w.2.2 : Nat) : Int)]) = (ws.map fun w => ((w.1, w.2.1 - m, w.2.2) : Wy)).flatMap Fs.wayB := by
    intro ws
    induction ws with
    | nil => rfl
    | cons w ws ih =>
      rw [List.flatMap_cons, List.map_cons, List.flatMap_cons, ← ih]
      unfold Pl.numsB Fs.wayB
      simp
  unfold numsN Fs.bytesN lessN Fs.headN
  cases fin with
  | none =>
    simp only [Option.map_none, Option.isSome_none, Bool.false_eq_true, if_false, List.length_map]
    rw [← key]
    unfold Pl.numsB Fs.finB
    simp
  | some v =>
    simp only [Option.map_some, Option.isSome_some, if_true, List.length_map]
    rw [← key]
    unfold Pl.numsB Fs.finB
    simp
theorem numsN_snoc (fin : Option Int) (ws : List Wy) (k : Nat) (m : Int) (n : Nat) (hk : k < ws.length) : ((match fin with
  | some v => [((2 * n : Nat) : Int) + 1, v - m]
  | none => [((2 * n : Nat) : Int)]) ++ (ws.take k).flatMap fun w => [((w.1.toNat : Nat) : Int), w.2.1 - m, ((w.2.2 : Nat) : Int)]) ++ [((ws[k].1.toNat : Nat) : Int), ws[k].2.1 - m, ((ws[k].2.2 : Nat) : Int)] = (match fin with
  | some v => [((2 * n : Nat) : Int) + 1, v - m]
  | none => [((2 * n : Nat) : Int)]) ++ (ws.take (k + 1)).flatMap fun w => [((w.1.toNat : Nat) : Int), w.2.1 - m, ((w.2.2 : Nat) : Int)] := by
  rw [List.take_succ_eq_append_getElem hk, List.flatMap_append]
  simp
/-- The numbers so far. -/
def soFar (fin : Option Int) (ws : List Wy) (m : Int) (n k : Nat) : List Int := (match fin with
  | some v => [((2 * n : Nat) : Int) + 1, v - m]
  | none => [((2 * n : Nat) : Int)]) ++ (ws.take k).flatMap fun w => [((w.1.toNat : Nat) : Int), w.2.1 - m, ((w.2.2 : Nat) : Int)]
theorem soFar_length (fin : Option Int) (ws : List Wy) (m : Int) (n k : Nat) (hk : k ≤ ws.length) : (soFar fin ws m n k).length = (if fin.isSome then 2 else 1) + k * 3 := by
  have key : ∀ l : List Wy, (l.flatMap fun w => [((w.1.toNat : Nat) : Int), w.2.1 - m, ((w.2.2 : Nat) : Int)]).length = l.length * 3 := by
    intro l
    induction l with
    | nil => rfl
    | cons x t ih =>
      rw [List.flatMap_cons, List.length_append, ih, List.length_cons]
      simp only [List.length_cons, List.length_nil]
      omega
  unfold soFar
  rw [List.length_append, key, List.length_take, Nat.min_eq_left hk]
  cases fin <;> simp
set_option maxRecDepth 100000 in
set_option maxHeartbeats 8000000 in
/-- What textOf answers. -/
theorem textOf_any (w : World) (v : Value) (fin : Option Int) (ov m : Int) (ws : List Wy) (h : WayS w v ws) (hn : ws.length ≤ 1000000) (hov : ∀ x, fin = some x → ov = x) (hm : 0 ≤ m ∧ m ≤ 9223372036854775807) (hf : ∀ x, fin = some x → m ≤ x ∧ x ≤ 9223372036854775807) (hw : ∀ y ∈ ws, m ≤ y.2.1 ∧ y.2.1 ≤ 9223372036854775807 ∧ (y.2.2 : Int) ≤ 9223372036854775807) :
    Calls Try.prog 43 #[.agg #[.bool fin.isSome, .int .i64 ov, v], .int .i64 m] w fun e w' => e = .returned (.string (bs (Fs.bytesN (lessN fin ws m)))) ∧ Below w.heap.size w w' := by
  obtain ⟨a, cap, rfl, hx, hx', hu⟩ := h
  obtain ⟨ii, hi, hz0, hz1, hz2⟩ := info_parts Try.infoI
  have HU := Lib.hid hu
  have HW := Lib.hid hw
  obtain ⟨n, hnn⟩ : ∃ n, n = ws.length := ⟨_, rfl⟩
  have HN := Lib.hid hnn
  rw [← hnn] at hx hn ⊢
  have HFIN : Hid (soFar fin ws m n n = numsN fin ws m) := by show _ = _; unfold soFar numsN; rw [hnn, List.take_length]
  have HLEN : Hid (∀ k, k ≤ n → (soFar fin ws m n k).length ≤ 2 + k * 3 ∧ 1 ≤ (soFar fin ws m n k).length) := fun k hk => by
    rw [soFar_length fin ws m n k (by omega)]
    split <;> omega
  have HWF : Hid (∀ x ∈ numsN fin ws m, -9223372036854775808 ≤ x ∧ x ≤ 9223372036854775807) := by
    intro x hx
    unfold numsN at hx
    rcases List.mem_append.1 hx with hx | hx
    · cases fin with
      | none => rw [List.mem_singleton.1 hx]; omega
      | some u =>
        have := hf u rfl
        rcases List.mem_cons.1 hx with rfl | hx
        · omega
        · rw [List.mem_singleton.1 hx]; omega
    · obtain ⟨y, hy, hx⟩ := List.mem_flatMap.1 hx
      have h1 := hw y hy
      have h2 := y.1.toNat_lt
      simp only [List.mem_cons, List.mem_nil_iff, or_false] at hx
      rcases hx with rfl | rfl | rfl <;> omega
  have HNB := Lib.hid (numsN_bytes fin ws m)
  have HST : Hid (∀ k (hk : k < ws.length), soFar fin ws m n k ++ [((ws[k].1.toNat : Nat) : Int), ws[k].2.1 - m, ((ws[k].2.2 : Nat) : Int)] = soFar fin ws m n (k + 1)) := fun k hk => numsN_snoc fin ws k m n hk
  have H0 : Hid (soFar fin ws m n 0 = (match fin with
    | some v => [((2 * n : Nat) : Int) + 1, v - m]
    | none => [((2 * n : Nat) : Int)])) := by show _ = _; unfold soFar; simp
  obtain ⟨hm1, hm2⟩ := hm
  clear hu hw hnn
  cases fin with
  | none =>
    rw [show (none : Option Int).isSome = false from rfl]
    go_enter Try.func43, Try.ntmps43
    go_wp2_with fail
    have HO1 : Hid (OwnI ((w.alloc (.cells #[.bool false, .int .i64 ov, .slice a n cap] 51)).alloc (.cells #[.int .i64 (2 * (n : Int))] 3)) w.heap.size (.slice (some ⟨w.heap.size + 1, 0, none⟩) 1 1) (soFar none ws m n 0)) := by
      have h1 := ownI_lit (w.alloc (.cells #[.bool false, .int .i64 ov, .slice a n cap] 51)) [2 * (n : Int)] (B := w.heap.size) (by simp) (by simp)
      show OwnI _ _ _ _
      rw [show soFar none ws m n 0 = [2 * (n : Int)] from H0.out]
      simpa [intsV] using h1
    have HB1 : Hid (Below w.heap.size w ((w.alloc (.cells #[.bool false, .int .i64 ov, .slice a n cap] 51)).alloc (.cells #[.int .i64 (2 * (n : Int))] 3))) := ((Below.refl _ _).alloc (Nat.le_refl _) _).alloc (by simp) _
    go_loopg [5, 28] n (fun gg nv i wx => ∃ (k : Nat), k ≤ n ∧ gg = n - k ∧ i = .int .i64 k ∧ OwnI wx w.heap.size nv (soFar none ws m n k) ∧ Below w.heap.size w wx)
    case atStart => exact ⟨0, Nat.zero_le _, rfl, rfl, HO1.out, HB1.out⟩
    case round =>
      obtain ⟨k, hk, rfl, rfl, hown, hbel⟩ := hrel
      have hsl := HLEN.out k hk
      obtain ⟨a6, c6, hv6, hc6, hc6'⟩ := hown.form
      subst hv6
      have HO := Lib.hid hown
      have HBE := Lib.hid hbel
      have HSZ := Lib.hid hbel.size
      clear hown
      by_cases hkn : k < n
      · have i2 : (k : Int) < (n : Int) := by omega
        have kx : k < ws.length := by rw [← HN.out]; exact hkn
        obtain ⟨g, rfl, hg, hcu⟩ := HU.out (by omega)
        have c1 : wr.cell? ⟨g, k * 3, none⟩ = some (.int .i64 (ws[k].1.toNat : Nat)) := (hbel.cell (p := ⟨g, k * 3, none⟩) hg).trans (hcu k kx).1
        have c2 : wr.cell? ⟨g, k * 3 + 1, none⟩ = some (.int .i64 ws[k].2.1) := (hbel.cell (p := ⟨g, k * 3 + 1, none⟩) hg).trans (hcu k kx).2.1
        have c3 : wr.cell? ⟨g, k * 3 + 2, none⟩ = some (.int .i64 (ws[k].2.2 : Nat)) := (hbel.cell (p := ⟨g, k * 3 + 2, none⟩) hg).trans (hcu k kx).2.2
        have hwk := HW.out _ (List.getElem_mem kx)
        have hst := HST.out k kx
        have hwr : wrap64 (ws[k].2.1 - m) = ws[k].2.1 - m := by unfold wrap64; omega
        have HS2 := Lib.hid hst
        obtain ⟨acc, hacc⟩ : ∃ acc, acc = soFar none ws m n k := ⟨_, rfl⟩
        rw [← hacc] at HO hsl HS2 ⊢
        clear hcu hbel hst hacc
        generalize ws[k].1.toNat = d1 at *
        generalize ws[k].2.1 = d2 at *
        generalize ws[k].2.2 = d3 at *
        go_wp2_with (at_builtin; go_loud ((refine wpList_append_own _ rfl _ _ 75 rfl w.heap.size 3 ii (.int .i64 0) 1 8 Try.underlying75 hi hz0 hz1 hz2 rfl (by decide) (.slice a6 acc.length c6) acc.length (intsV acc) rfl ((World.ownsRow.alloc HO.out _).alloc _) ⟨wr.heap.size + 1, 0, none⟩ 3 3 [.int .i64 (d1 : Int), .int .i64 (d2 - m), .int .i64 (d3 : Int)] rfl rfl (by have := new_cells (wr.alloc (.cells #[.int .i64 (d1 : Int), .int .i64 d2, .int .i64 (d3 : Int)] 55)) [.int .i64 (d1 : Int), .int .i64 (d2 - m), .int .i64 (d3 : Int)] 3; simpa using this) (one_of rfl) (by unfold maxLen; omega) (by omega) (by have := HSZ.out; simp; omega) ?_; intro v5 w5 hown5 hgr5 _)))
        have HO5 : Hid (OwnI w5 w.heap.size v5 (soFar none ws m n (k + 1))) := by
          show OwnI _ _ _ _
          rw [← HS2.out]
          unfold OwnI
          rw [← intsV_append]
          simpa [intsV] using hown5
        have HB5 : Hid (Below w.heap.size w w5) := ((HBE.out.alloc HSZ.out _).alloc (Nat.le_trans HSZ.out (by simp)) _).grown hgr5 (by have := HSZ.out; simp; omega) (fun j hj => (World.ownsRow.lt HO.out j hj).1)
        clear hown5 hgr5 HO
        go_wp2_with fail
        go_roundg (n - (k + 1))
        case rel => exact ⟨k + 1, by omega, rfl, by go_num, HO5.out, HB5.out⟩
        case measure => omega
      · obtain rfl : k = n := by omega
        have hF := HFIN.out
        rw [hF] at HO hsl ⊢
        have hO := HO.out
        obtain ⟨g9, c9, hv9, hg9, hc9⟩ := hO.cells (by omega)
        simp only [Value.slice.injEq, true_and] at hv9
        obtain ⟨rfl, rfl⟩ := hv9
        have HC := Lib.hid (nums_any wr (numsN none ws m) (numsN none ws m).length c6 g9 0 (by omega) rfl hg9 hc9 HWF.out)
        rw [HNB.out] at HC
        clear hc9 hO hF HO
        generalize hq : (numsN none ws m).length = q at *
        clear hq
        go_wp2_with (go_at_call 27; refine HC.out.mono ?_; rintro e1 w1 ⟨rfl, hb1⟩; have HB9 : Hid (Below w.heap.size w w1) := HBE.out.trans (hb1.mono HSZ.out); clear hb1)
        go_ret
        exact ⟨rfl, HB9.out⟩
  | some x =>
    obtain rfl := hov x rfl
    obtain ⟨hf1, hf2⟩ := hf ov rfl
    rw [show (some ov : Option Int).isSome = true from rfl]
    have hwo : wrap64 (ov - m) = ov - m := by unfold wrap64; omega
    go_enter Try.func43, Try.ntmps43
    go_wp2_with fail
    have HO1 : Hid (OwnI (((w.alloc (.cells #[.bool true, .int .i64 ov, .slice a n cap] 51)).alloc (.cells #[.int .i64 (2 * (n : Int))] 3)).alloc (.cells #[.int .i64 (2 * (n : Int) + 1), .int .i64 (ov - m)] 3)) w.heap.size (.slice (some ⟨w.heap.size + 2, 0, none⟩) 2 2) (soFar (some ov) ws m n 0)) := by
      have h1 := ownI_lit ((w.alloc (.cells #[.bool true, .int .i64 ov, .slice a n cap] 51)).alloc (.cells #[.int .i64 (2 * (n : Int))] 3)) [2 * (n : Int) + 1, ov - m] (B := w.heap.size) (by simp; omega) (by simp)
      show OwnI _ _ _ _
      rw [show soFar (some ov) ws m n 0 = [2 * (n : Int) + 1, ov - m] from H0.out]
      simpa [intsV] using h1
    have HB1 : Hid (Below w.heap.size w (((w.alloc (.cells #[.bool true, .int .i64 ov, .slice a n cap] 51)).alloc (.cells #[.int .i64 (2 * (n : Int))] 3)).alloc (.cells #[.int .i64 (2 * (n : Int) + 1), .int .i64 (ov - m)] 3))) := (((Below.refl _ _).alloc (Nat.le_refl _) _).alloc (by simp) _).alloc (by simp; omega) _
    go_loopg [5, 28] n (fun gg nv i wx => ∃ (k : Nat), k ≤ n ∧ gg = n - k ∧ i = .int .i64 k ∧ OwnI wx w.heap.size nv (soFar (some ov) ws m n k) ∧ Below w.heap.size w wx)
    case atStart => exact ⟨0, Nat.zero_le _, rfl, rfl, HO1.out, HB1.out⟩
    case round =>
      obtain ⟨k, hk, rfl, rfl, hown, hbel⟩ := hrel
      have hsl := HLEN.out k hk
      obtain ⟨a6, c6, hv6, hc6, hc6'⟩ := hown.form
      subst hv6
      have HO := Lib.hid hown
      have HBE := Lib.hid hbel
      have HSZ := Lib.hid hbel.size
      clear hown
      by_cases hkn : k < n
      · have i2 : (k : Int) < (n : Int) := by omega
        have kx : k < ws.length := by rw [← HN.out]; exact hkn
        obtain ⟨g, rfl, hg, hcu⟩ := HU.out (by omega)
        have c1 : wr.cell? ⟨g, k * 3, none⟩ = some (.int .i64 (ws[k].1.toNat : Nat)) := (hbel.cell (p := ⟨g, k * 3, none⟩) hg).trans (hcu k kx).1
        have c2 : wr.cell? ⟨g, k * 3 + 1, none⟩ = some (.int .i64 ws[k].2.1) := (hbel.cell (p := ⟨g, k * 3 + 1, none⟩) hg).trans (hcu k kx).2.1
        have c3 : wr.cell? ⟨g, k * 3 + 2, none⟩ = some (.int .i64 (ws[k].2.2 : Nat)) := (hbel.cell (p := ⟨g, k * 3 + 2, none⟩) hg).trans (hcu k kx).2.2
        have hwk := HW.out _ (List.getElem_mem kx)
        have hst := HST.out k kx
        have hwr : wrap64 (ws[k].2.1 - m) = ws[k].2.1 - m := by unfold wrap64; omega
        have HS2 := Lib.hid hst
        obtain ⟨acc, hacc⟩ : ∃ acc, acc = soFar (some ov) ws m n k := ⟨_, rfl⟩
        rw [← hacc] at HO hsl HS2 ⊢
        clear hcu hbel hst hacc
        generalize ws[k].1.toNat = d1 at *
        generalize ws[k].2.1 = d2 at *
        generalize ws[k].2.2 = d3 at *
        go_wp2_with (at_builtin; go_loud ((refine wpList_append_own _ rfl _ _ 75 rfl w.heap.size 3 ii (.int .i64 0) 1 8 Try.underlying75 hi hz0 hz1 hz2 rfl (by decide) (.slice a6 acc.length c6) acc.length (intsV acc) rfl ((World.ownsRow.alloc HO.out _).alloc _) ⟨wr.heap.size + 1, 0, none⟩ 3 3 [.int .i64 (d1 : Int), .int .i64 (d2 - m), .int .i64 (d3 : Int)] rfl rfl (by have := new_cells (wr.alloc (.cells #[.int .i64 (d1 : Int), .int .i64 d2, .int .i64 (d3 : Int)] 55)) [.int .i64 (d1 : Int), .int .i64 (d2 - m), .int .i64 (d3 : Int)] 3; simpa using this) (one_of rfl) (by unfold maxLen; omega) (by omega) (by have := HSZ.out; simp; omega) ?_; intro v5 w5 hown5 hgr5 _)))
        have HO5 : Hid (OwnI w5 w.heap.size v5 (soFar (some ov) ws m n (k + 1))) := by
          show OwnI _ _ _ _
          rw [← HS2.out]
          unfold OwnI
          rw [← intsV_append]
          simpa [intsV] using hown5
        have HB5 : Hid (Below w.heap.size w w5) := ((HBE.out.alloc HSZ.out _).alloc (Nat.le_trans HSZ.out (by simp)) _).grown hgr5 (by have := HSZ.out; simp; omega) (fun j hj => (World.ownsRow.lt HO.out j hj).1)
        clear hown5 hgr5 HO
        go_wp2_with fail
        go_roundg (n - (k + 1))
        case rel => exact ⟨k + 1, by omega, rfl, by go_num, HO5.out, HB5.out⟩
        case measure => omega
      · obtain rfl : k = n := by omega
        have hF := HFIN.out
        rw [hF] at HO hsl ⊢
        have hO := HO.out
        obtain ⟨g9, c9, hv9, hg9, hc9⟩ := hO.cells (by omega)
        simp only [Value.slice.injEq, true_and] at hv9
        obtain ⟨rfl, rfl⟩ := hv9
        have HC := Lib.hid (nums_any wr (numsN (some ov) ws m) (numsN (some ov) ws m).length c6 g9 0 (by omega) rfl hg9 hc9 HWF.out)
        rw [HNB.out] at HC
        clear hc9 hO hF HO
        generalize hq : (numsN (some ov) ws m).length = q at *
        clear hq
        go_wp2_with (go_at_call 27; refine HC.out.mono ?_; rintro e1 w1 ⟨rfl, hb1⟩; have HB9 : Hid (Below w.heap.size w w1) := HBE.out.trans (hb1.mono HSZ.out); clear hb1)
        go_ret
        exact ⟨rfl, HB9.out⟩
end Go.Proofs.Ytdjiknakbldggaa

/-
  What stays, by the kinds of blocks; the document's maker of nodes in memory.
-/
namespace Go.Proofs.Ytdjiknakbldggaa
open Go.RowKit

/-- Nothing below B has turned, and nothing of these kinds that lay there. -/
structure KeptT (T : List TypeId) (B : Nat) (w w' : World) : Prop where
  os : w'.os = w.os
  tape : w'.tape = w.tape
  output : w'.output = w.output
  size : w.heap.size ≤ w'.heap.size
  old : ∀ k, k < B → k < w.heap.size → w'.heap[k]? = w.heap[k]?
  kind : ∀ (k : Nat) (c : Array Value) (t : TypeId) (fz : Nat × Nat), w.heap[k]? = some (Obj.cells c t fz) → t ∈ T → w'.heap[k]? = w.heap[k]?
theorem KeptT.refl (T : List TypeId) (B : Nat) (w : World) : KeptT T B w w := ⟨rfl, rfl, rfl, Nat.le_refl _, fun _ _ _ => rfl, fun _ _ _ _ _ _ => rfl⟩
theorem KeptT.trans {T : List TypeId} {B : Nat} {w w' w'' : World} (h : KeptT T B w w') (k : KeptT T B w' w'') : KeptT T B w w'' :=
  ⟨k.os.trans h.os, k.tape.trans h.tape, k.output.trans h.output, Nat.le_trans h.size k.size, fun i hi hw => (k.old i hi (Nat.lt_of_lt_of_le hw h.size)).trans (h.old i hi hw), fun i c t fz hc ht => by
    have e := h.kind i c t fz hc ht
    exact (k.kind i c t fz (e.trans hc) ht).trans e⟩
theorem KeptT.less {S T : List TypeId} {B : Nat} {w w' : World} (h : KeptT T B w w') (hs : ∀ t ∈ S, t ∈ T) : KeptT S B w w' := ⟨h.os, h.tape, h.output, h.size, h.old, fun k c t fz hc ht => h.kind k c t fz hc (hs t ht)⟩
theorem KeptT.of_below {T : List TypeId} {B : Nat} {w w' : World} (h : Below w.heap.size w w') : KeptT T B w w' :=
  ⟨h.os, h.tape, h.output, h.size, fun k _ hk => h.block k hk, fun k _ _ _ hc _ => h.block k (Array.getElem?_eq_some_iff.1 hc).1⟩
theorem KeptT.below {T : List TypeId} {B : Nat} {w0 w w' : World} (h : KeptT T B w w') (hb : Below B w0 w) (hB : B ≤ w.heap.size) : Below B w0 w' :=
  hb.trans ⟨h.os, h.tape, h.output, h.size, fun k hk => h.old k hk (by omega)⟩
theorem KeptT.drew {T : List TypeId} {B : Nat} {w w' : World} (h : KeptT T B w w') : KeptT T B w w'.drew := h.trans (KeptT.of_below (Below.refl _ _).drew)
/-- What turns one block alone, of another kind. -/
theorem KeptT.one {T : List TypeId} {B : Nat} {w w' : World} (b : Nat) (h : KeptF (fun k => k = b) w w') (hB : B ≤ b) (hk : ∀ (c : Array Value) (t : TypeId) (fz : Nat × Nat), w.heap[b]? = some (Obj.cells c t fz) → t ∉ T) : KeptT T B w w' :=
  ⟨h.os, h.tape, h.output, h.size, fun k h1 h2 => h.block k h2 (by omega), fun k c t fz hc ht => h.block k (Array.getElem?_eq_some_iff.1 hc).1 (fun e => by subst e; exact hk c t fz hc ht)⟩
theorem KeptT.set {T : List TypeId} {B : Nat} {w : World} (b i : Nat) (v : Value) (hB : B ≤ b) (hk : ∀ (c : Array Value) (t : TypeId) (fz : Nat × Nat), w.heap[b]? = some (Obj.cells c t fz) → t ∉ T) : KeptT T B w (w.setCell ⟨b, i, none⟩ v) :=
  KeptT.one b ⟨rfl, rfl, rfl, by simp [World.setCell], fun k _ hk => heap_other _ _ _ _ _ hk⟩ hB hk
theorem own_kind {w : World} {B : Nat} {e : TypeId} {z n : Nat} {v : Value} {xs : List Value} (h : w.ownsRow B e z v n xs) : ∀ k, v.ownBlock = some k → B ≤ k ∧ k < w.heap.size ∧ ∃ c fz, w.heap[k]? = some (Obj.cells c e fz) := by
  intro g hv
  refine ⟨(h.lt g hv).1, (h.lt g hv).2, ?_⟩
  rcases h.2 with ⟨h1, _⟩ | ⟨g', cap, cur, h1, hg, hh, _⟩
  · rw [h1] at hv; cases hv
  · rw [h1] at hv
    obtain rfl : g' = g := by simpa [Value.ownBlock] using hv
    exact ⟨_, _, hh⟩
theorem kind_inj {w : World} {k : Nat} {c c' : Array Value} {t t' : TypeId} {fz fz' : Nat × Nat} (h : w.heap[k]? = some (Obj.cells c t fz)) (h' : w.heap[k]? = some (.cells c' t' fz')) : t = t' := by
  rw [h] at h'
  injection h' with h'
  injection h'
theorem Grew.keptT {T : List TypeId} {B : Nat} {w w' : World} {e : TypeId} {z n : Nat} {v v' : Value} {xs : List Value} (h : Grew w w' v v') (hown : w.ownsRow B e z v n xs) (he : e ∉ T) : KeptT T B w w' :=
  ⟨h.kept.os, h.kept.tape, h.kept.output, h.kept.size, fun k h1 h2 => h.kept.block k h2 (fun q => by have := (own_kind hown k q).1; omega), fun k c t fz hc ht => h.kept.block k (Array.getElem?_eq_some_iff.1 hc).1 (fun q => by
    obtain ⟨_, _, c', fz', h'⟩ := own_kind hown k q
    exact he (kind_inj hc h' ▸ ht))⟩
theorem ownsRow_kt {T : List TypeId} {B : Nat} {w w' : World} {e : TypeId} {z n : Nat} {v : Value} {xs : List Value} (h : w.ownsRow B e z v n xs) (k : KeptT T B w w') (he : e ∈ T) : w'.ownsRow B e z v n xs :=
  ownsRow_keep h fun g hg => by
    obtain ⟨_, _, c, fz, hc⟩ := own_kind h g hg
    exact k.kind g c e fz hc he

/-! ### rows of structs -/
def RowT (t : TypeId) (w : World) (b : Nat) (cs : Array Value) : Prop := w.heap[b]? = some (Obj.cells cs t (0, 0))
theorem RowT.cell {t : TypeId} {w : World} {b : Nat} {cs : Array Value} (h : RowT t w b cs) (i : Nat) : w.cell? ⟨b, i, none⟩ = cs[i]? := cell_of_row w b i cs _ _ h
theorem RowT.frozen {t : TypeId} {w : World} {b : Nat} {cs : Array Value} (h : RowT t w b cs) (i : Nat) : w.frozen? ⟨b, i, none⟩ = false := by
  have h' : w.heap[b]? = some (Obj.cells cs t (0, 0)) := h
  simp [World.frozen?, h']
theorem RowT.lt {t : TypeId} {w : World} {b : Nat} {cs : Array Value} (h : RowT t w b cs) : b < w.heap.size := (Array.getElem?_eq_some_iff.1 h).1
theorem RowT.set {t : TypeId} {w : World} {b : Nat} {cs : Array Value} (h : RowT t w b cs) (i : Nat) (v : Value) : RowT t (w.setCell ⟨b, i, none⟩ v) b (cs.setIfInBounds i v) := by
  unfold RowT
  rw [setCell_eq_setRow w b i cs _ _ v h]
  exact setRow_heap w b cs _ _ _ h
theorem RowT.keep {t : TypeId} {w w' : World} {b : Nat} {cs : Array Value} (h : RowT t w b cs) (e : w'.heap[b]? = w.heap[b]?) : RowT t w' b cs := e.trans h

/-- Texts as cells. -/
def strV (l : List (List UInt8)) : List Value := l.map fun t => .string (bs t)
theorem strV_length (l : List (List UInt8)) : (strV l).length = l.length := List.length_map _
theorem strV_snoc (l : List (List UInt8)) (t : List UInt8) : strV l ++ [.string (bs t)] = strV (l ++ [t]) := by simp [strV]
/-- The maker of nodes at mb: what is left behind each node, its bytes. -/
structure MkA (w : World) (B mb : Nat) (lv tv : Value) (Ls : List Value) (M : List (List Fs.En)) : Prop where
  row : RowT 67 w mb #[lv, tv]
  base : B ≤ mb
  left : w.ownsRow B 22 1 lv M.length Ls
  lists : ∀ i (h : i < M.length), ∃ v, Ls[i]? = some v ∧ OwnE w B v M[i]
  text : w.ownsRow B 9 1 tv M.length (strV (Fs.txt M))
theorem MkA.keep {w w' : World} {B mb : Nat} {lv tv : Value} {Ls : List Value} {M : List (List Fs.En)} (h : MkA w B mb lv tv Ls M) (hb : Below w.heap.size w w') : MkA w' B mb lv tv Ls M :=
  ⟨h.row.keep (hb.block _ h.row.lt), h.base, ownsRow_keep h.left fun k hk => hb.block k (own_kind h.left k hk).2.1, fun i hi => by
    obtain ⟨v, h1, h2⟩ := h.lists i hi
    exact ⟨v, h1, ownsRow_keep h2 fun k hk => hb.block k (own_kind h2 k hk).2.1⟩, ownsRow_keep h.text fun k hk => hb.block k (own_kind h.text k hk).2.1⟩
theorem OwnE.kt {T : List TypeId} {B : Nat} {w w' : World} {v : Value} {l : List Fs.En} (h : OwnE w B v l) (k : KeptT T B w w') (he : 26 ∈ T) : OwnE w' B v l := ownsRow_kt h k he
theorem OwnE.base {w : World} {B C : Nat} {v : Value} {l : List Fs.En} (h : OwnE w B v l) (hC : C ≤ B) : OwnE w C v l := ownsRow_base h hC
/-- A list has been put behind the others. -/
theorem MkA.left_to {w w3 : World} {B mb g cap : Nat} {lv tv v : Value} {Ls : List Value} {M : List (List Fs.En)} {l : List Fs.En} (h : MkA w B mb lv tv Ls M) (hv : OwnE w B v l)
    (h3 : w3.ownsRow B 22 1 (.slice (some ⟨g, 0, none⟩) (M.length + 1) cap) (M.length + 1) (Ls ++ [v])) (hg : Grew w w3 lv (.slice (some ⟨g, 0, none⟩) (M.length + 1) cap)) :
    RowT 67 (w3.setCell ⟨mb, 0, none⟩ (.slice (some ⟨g, 0, none⟩) (M.length + 1) cap)) mb #[.slice (some ⟨g, 0, none⟩) (M.length + 1) cap, tv] ∧
    (w3.setCell ⟨mb, 0, none⟩ (.slice (some ⟨g, 0, none⟩) (M.length + 1) cap)).ownsRow B 22 1 (.slice (some ⟨g, 0, none⟩) (M.length + 1) cap) (M.length + 1) (Ls ++ [v]) ∧
    (∀ i (hi : i < (M ++ [l]).length), ∃ v', (Ls ++ [v])[i]? = some v' ∧ OwnE (w3.setCell ⟨mb, 0, none⟩ (.slice (some ⟨g, 0, none⟩) (M.length + 1) cap)) B v' (M ++ [l])[i]) ∧
    (w3.setCell ⟨mb, 0, none⟩ (.slice (some ⟨g, 0, none⟩) (M.length + 1) cap)).ownsRow B 9 1 tv M.length (strV (Fs.txt M)) ∧
    KeptT [26] B w (w3.setCell ⟨mb, 0, none⟩ (.slice (some ⟨g, 0, none⟩) (M.length + 1) cap)) := by
  have k1 : KeptT [26, 9, 67] B w w3 := hg.keptT h.left (by decide)
  have hrow3 : RowT 67 w3 mb #[lv, tv] := h.row.keep (k1.kind mb _ _ _ h.row (by decide))
  have k2 : KeptT [26, 9, 22] B w3 (w3.setCell ⟨mb, 0, none⟩ (.slice (some ⟨g, 0, none⟩) (M.length + 1) cap)) := KeptT.set mb 0 _ h.base fun c t fz hc => by
    rw [kind_inj hc hrow3]
    decide
  have k3 : KeptT [26, 9] B w (w3.setCell ⟨mb, 0, none⟩ (.slice (some ⟨g, 0, none⟩) (M.length + 1) cap)) := KeptT.trans (k1.less (by decide)) (k2.less (by decide))
  have hlen : Ls.length = M.length := by rw [h.left.1, Nat.mul_one]
  refine ⟨hrow3.set 0 _, ownsRow_kt h3 k2 (by decide), fun i hi => ?_, ownsRow_kt h.text k3 (by decide), k3.less (by decide)⟩
  rcases Nat.lt_or_ge i M.length with q | q
  · obtain ⟨v', a1, a2⟩ := h.lists i q
    refine ⟨v', by rw [List.getElem?_append_left (by omega)]; exact a1, ?_⟩
    rw [List.getElem_append_left q]
    exact a2.kt k3 (by decide)
  · have hi2 : i = M.length := by
      rw [List.length_append, List.length_singleton] at hi
      omega
    subst hi2
    refine ⟨v, by rw [List.getElem?_append_right (by omega), hlen, Nat.sub_self]; rfl, ?_⟩
    rw [List.getElem_append_right (Nat.le_refl _)]
    simp only [Nat.sub_self, List.getElem_cons_zero]
    exact hv.kt k3 (by decide)
/-- A text has been put behind the others. -/
theorem text_to {w w3 : World} {B mb g cap n : Nat} {lv tv : Value} {Ls : List Value} {N : List (List Fs.En)} {S : List (List UInt8)} {t : List UInt8} (hrow : RowT 67 w mb #[lv, tv]) (hmb : B ≤ mb) (hleft : w.ownsRow B 22 1 lv N.length Ls)
    (hlists : ∀ i (h : i < N.length), ∃ v, Ls[i]? = some v ∧ OwnE w B v N[i]) (htext : w.ownsRow B 9 1 tv n (strV S)) (hS : S ++ [t] = Fs.txt N) (hn : n + 1 = N.length)
    (h3 : w3.ownsRow B 9 1 (.slice (some ⟨g, 0, none⟩) (n + 1) cap) (n + 1) (strV S ++ [.string (bs t)])) (hg : Grew w w3 tv (.slice (some ⟨g, 0, none⟩) (n + 1) cap)) :
    MkA (w3.setCell ⟨mb, 1, none⟩ (.slice (some ⟨g, 0, none⟩) (n + 1) cap)) B mb lv (.slice (some ⟨g, 0, none⟩) (n + 1) cap) Ls N ∧
    KeptT [26] B w (w3.setCell ⟨mb, 1, none⟩ (.slice (some ⟨g, 0, none⟩) (n + 1) cap)) := by
  have k1 : KeptT [26, 22, 67] B w w3 := hg.keptT htext (by decide)
  have hrow3 : RowT 67 w3 mb #[lv, tv] := hrow.keep (k1.kind mb _ _ _ hrow (by decide))
  have k2 : KeptT [26, 9, 22] B w3 (w3.setCell ⟨mb, 1, none⟩ (.slice (some ⟨g, 0, none⟩) (n + 1) cap)) := KeptT.set mb 1 _ hmb fun c t fz hc => by
    rw [kind_inj hc hrow3]
    decide
  have k3 : KeptT [26, 22] B w (w3.setCell ⟨mb, 1, none⟩ (.slice (some ⟨g, 0, none⟩) (n + 1) cap)) := KeptT.trans (k1.less (by decide)) (k2.less (by decide))
  rw [strV_snoc, hS, hn] at h3
  rw [hn] at k2 k3 ⊢
  refine ⟨⟨hrow3.set 1 _, hmb, ownsRow_kt hleft k3 (by decide), fun i hi => ?_, ownsRow_kt h3 k2 (by decide)⟩, k3.less (by decide)⟩
  obtain ⟨v', a1, a2⟩ := hlists i hi
  exact ⟨v', a1, a2.kt k3 (by decide)⟩
end Go.Proofs.Ytdjiknakbldggaa

/-
  The document's own nodes: what its maker answers, and leaves.
-/
namespace Go.Proofs.Ytdjiknakbldggaa
open Go.RowKit

namespace Fs
/-- The ways by bytes below one. -/
def waysTo (l : List En) (c : Nat) : List (UInt8 × Int × List En) := (List.range c).filterMap fun n => if behind l n.toUInt8 = [] then none else some (n.toUInt8, least (behind l n.toUInt8), low (behind l n.toUInt8))
theorem waysTo_zero (l : List En) : waysTo l 0 = [] := rfl
theorem waysTo_all (l : List En) : waysTo l 256 = ways l := rfl
theorem waysTo_no {l : List En} {c : Nat} (h : behind l c.toUInt8 = []) : waysTo l (c + 1) = waysTo l c := by
  unfold waysTo
  rw [List.range_succ, List.filterMap_append]
  simp [h]
theorem waysTo_yes {l : List En} {c : Nat} (h : behind l c.toUInt8 ≠ []) : waysTo l (c + 1) = waysTo l c ++ [(c.toUInt8, least (behind l c.toUInt8), low (behind l c.toUInt8))] := by
  unfold waysTo
  rw [List.range_succ, List.filterMap_append]
  simp [h]
theorem waysTo_sub {l : List En} {c : Nat} (hc : c ≤ 256) : ∀ w ∈ waysTo l c, w ∈ ways l := fun w hw => by
  unfold waysTo at hw
  obtain ⟨n, h1, h2⟩ := List.mem_filterMap.1 hw
  refine List.mem_filterMap.2 ⟨n, List.mem_range.2 ?_, h2⟩
  have := List.mem_range.1 h1
  omega
theorem waysTo_length (l : List En) (c : Nat) : (waysTo l c).length ≤ c := by
  unfold waysTo
  exact Nat.le_trans (List.length_filterMap_le _ _) (by simp)
/-- The bytes of ways, told among nodes. -/
def wysB (M : List (List En)) (ws : List (UInt8 × Int × List En)) : List UInt8 := ws.flatMap fun w => wayB (w.1, w.2.1, at_ M w.2.2)
theorem wysB_same {M K : List (List En)} : ∀ {ws : List (UInt8 × Int × List En)}, (∀ w ∈ ws, w.2.2 ∈ M) → wysB (M ++ K) ws = wysB M ws
  | [], _ => rfl
  | w :: ws, h => by
    unfold wysB
    rw [List.flatMap_cons, List.flatMap_cons, at_append (h w (by simp))]
    have := wysB_same (K := K) (ws := ws) fun v hv => h v (List.mem_cons_of_mem _ hv)
    unfold wysB at this
    rw [this]
theorem wayB_len (w : UInt8 × Int × Nat) : (wayB w).length ≤ 27 := by
  unfold wayB
  rw [List.length_append, List.length_append]
  have h1 := numB_len (w.1.toNat : Nat)
  have h2 := numB_len w.2.1
  have h3 := numB_len (w.2.2 : Nat)
  omega
theorem wysB_length (M : List (List En)) : ∀ ws : List (UInt8 × Int × List En), (wysB M ws).length ≤ 27 * ws.length
  | [] => Nat.le_refl _
  | w :: ws => by
    have h1 := wysB_length M ws
    have h2 := wayB_len (w.1, w.2.1, at_ M w.2.2)
    have e : (wysB M (w :: ws)).length = (wayB (w.1, w.2.1, at_ M w.2.2)).length + (wysB M ws).length := by
      unfold wysB
      rw [List.flatMap_cons, List.length_append]
    rw [e, List.length_cons]
    omega
theorem finB_len (o : Option Int) : (finB o).length ≤ 9 := by
  cases o with
  | none => exact Nat.zero_le _
  | some v => exact numB_len v
theorem nodeB_eq (M : List (List En)) (l : List En) : nodeB M l = Pl.numB ((2 * (ways l).length + (if (last l).isSome then 1 else 0) : Nat) : Int) ++ (finB (last l) ++ wysB M (ways l)) := by
  unfold nodeB bytesN headN node wysB
  simp only [List.length_map, List.flatMap_map]
theorem at_last {M : List (List En)} {l : List En} (h : l ∉ M) : at_ (M ++ [l]) l = M.length := by
  unfold at_
  rw [List.findIdx_append, if_neg]
  · simp
  · intro q
    have h1 := List.findIdx_getElem (p := (· == l)) (xs := M) (w := q)
    have h2 := eq_of_beq h1
    exact h (h2 ▸ List.getElem_mem q)
theorem at_first {M : List (List En)} {l : List En} {i : Nat} (hi : i < M.length) (he : M[i] = l) (hj : ∀ j (h : j < M.length), j < i → M[j] ≠ l) : at_ M l = i := by
  unfold at_
  rw [List.findIdx_eq hi]
  exact ⟨by simp [he], fun j hji => by
    have := hj j (by omega) hji
    simpa using this⟩
/-- How long a fold over ways is at most. -/
theorem fold_length (n : Nat) : ∀ (ws : List (UInt8 × Int × List En)) (M : List (List En)), (∀ w ∈ ws, Rise w.2.2) → (fold n ws M).length ≤ M.length + (ws.map fun w => total w.2.2 + 1).sum := by
  intro ws
  induction ws with
  | nil => intro M _; exact Nat.le_refl _
  | cons w ws ih =>
    intro M hr
    show (fold n ws (go n w.2.2 M)).length ≤ _
    rw [List.map_cons, List.sum_cons]
    have h1 := go_length n w.2.2 M (hr w (by simp))
    have h2 := ih (go n w.2.2 M) fun v hv => hr v (List.mem_cons_of_mem _ hv)
    omega
theorem waysTo_sum (l : List En) (c : Nat) : ∀ d, c ≤ d → ((waysTo l c).map fun w => total w.2.2 + 1).sum ≤ ((waysTo l d).map fun w => total w.2.2 + 1).sum := by
  intro d
  induction d with
  | zero => intro h; obtain rfl : c = 0 := by omega
            exact Nat.le_refl _
  | succ d ih =>
    intro h
    rcases Nat.lt_or_ge d c with q | q
    · obtain rfl : c = d + 1 := by omega
      exact Nat.le_refl _
    · refine Nat.le_trans (ih q) ?_
      by_cases hb : behind l d.toUInt8 = []
      · rw [waysTo_no hb]; exact Nat.le_refl _
      · rw [waysTo_yes hb, List.map_append, List.sum_append]; omega
theorem last_first {e : En} {l : List En} : last (e :: l) = if e.1 = [] then some e.2 else none := by
  obtain ⟨t, o⟩ := e
  cases t <;> simp [last]
theorem low_length (l : List En) : (low l).length = l.length := List.length_map _
end Fs

/-- What node answers: the place, and what the maker holds. -/
def NodePost (w : World) (B mb : Nat) (M' : List (List Fs.En)) (l : List Fs.En) (e : Ending) (w' : World) : Prop :=
  e = .returned (.int .i64 (Fs.at_ M' l : Nat)) ∧ (∃ lv tv Ls, MkA w' B mb lv tv Ls M') ∧ KeptT [26] B w w'
theorem MkA.form {w : World} {B mb : Nat} {lv tv : Value} {Ls : List Value} {M : List (List Fs.En)} (h : MkA w B mb lv tv Ls M) : ∃ a cap, lv = .slice a M.length cap ∧ M.length ≤ cap ∧ cap ≤ 9223372036854775807 ∧ (0 < M.length → ∃ g, a = some ⟨g, 0, none⟩ ∧ g < w.heap.size ∧ ∀ i u, Ls[i]? = some u → w.cell? ⟨g, i, none⟩ = some u) := by
  rcases h.left.2 with ⟨rfl, h0⟩ | ⟨g, cap, cur, rfl, hg, hh, hnc, hcp, hcs, htake⟩
  · exact ⟨none, 0, by rw [h0], by omega, by omega, fun h => by omega⟩
  · have hown := h.left
    refine ⟨_, cap, rfl, hnc, by unfold maxLen at hcp; omega, fun _ => ⟨g, rfl, (hown.lt g rfl).2, fun i u hu => ?_⟩⟩
    have := hown.cells (g := g) rfl i u hu
    rwa [Addr.add_lit, Nat.zero_add] at this
theorem own_form {w : World} {B : Nat} {e : TypeId} {z n : Nat} {v : Value} {xs : List Value} (h : w.ownsRow B e z v n xs) : ∃ a cap, v = .slice a n cap ∧ n ≤ cap ∧ cap ≤ 9223372036854775807 := by
  rcases h.2 with ⟨rfl, h0⟩ | ⟨g, cap, cur, rfl, hg, hh, hnc, hcp, hcs, htake⟩
  · exact ⟨none, 0, by rw [h0], by omega, by omega⟩
  · exact ⟨_, cap, rfl, hnc, by unfold maxLen at hcp; omega⟩
theorem Try.infoL : (Try.prog.info? 22).map (fun i => (i.zero, i.size, i.bytes)) = some (some (.slice none 0 0), 1, 24) := by kernel_rfl
theorem num_any (w : World) (n : Int) (h0 : 0 ≤ n) (h1 : n ≤ 9223372036854775807) : Calls Try.prog 31 #[.int .i64 n] w fun e w' => e = .returned (.string (bs (Pl.numB n))) ∧ Below w.heap.size w w' := numR_any n w (by omega) h1

set_option maxRecDepth 100000 in
set_option maxHeartbeats 16000000 in
theorem node_any : ∀ (n : Nat) (l : List Fs.En) (M : List (List Fs.En)) (w : World) (B mb : Nat) (v lv tv : Value) (Ls : List Value), MkA w B mb lv tv Ls M → OwnE w B v l → B ≤ w.heap.size → Fs.Good l → Fs.Lw l → Fs.deep l < n → l.length ≤ 65536 → Fs.Net M → (∀ k ∈ M, Fs.Lw k) → M.length + 1 + Fs.total l ≤ 8388608 →
    Calls Try.prog 30 #[.pointer (some ⟨mb, 0, none⟩), v] w (NodePost w B mb (Fs.go n l M) l)
  | 0, l, M, w, B, mb, v, lv, tv, Ls, _, _, _, _, _, hd, _, _, _, _ => absurd hd (Nat.not_lt_zero _)
  | n + 1, l, M, w, B, mb, v, lv, tv, Ls, hA, hv, hB, hG, hLw, hd, hlen, hN, hML, htot => by
    have ih := Lib.hid (node_any n)
    have HA := Lib.hid hA
    have HV := Lib.hid hv
    have HG := Lib.hid hG
    have HN := Lib.hid hN
    have HLW := Lib.hid hLw
    have HML := Lib.hid hML
    obtain ⟨q, hq⟩ : ∃ q, q = M.length := ⟨_, rfl⟩
    have HQ := Lib.hid hq
    obtain ⟨al, cl, hlv, hcl1, hcl2, hlc⟩ := hA.form
    have HLC := Lib.hid hlc
    subst hlv
    obtain ⟨gv, av, cv, hvv, hcv1, hcv2, hav, hgB, _, hcv, hfv⟩ := hv.opened
    subst hvv
    have hl0 : 0 < l.length := List.length_pos_iff.2 hG.ne
    obtain ⟨rfl, hgv⟩ := hav hl0
    have hmb := hA.row.lt
    rw [← hq] at hcl1 htot
    have hrow := HA.out.row
    rw [← hq] at hrow
    clear hA hv hG hN hLw hML hq hlc hfv hav
    go_enter Try.func30, Try.ntmps30
    go_wp2_with fail
    go_loopg [5] q (fun gg i wx => ∃ k : Nat, k ≤ q ∧ gg = q - k ∧ i = .int .i64 k ∧ Hid (∀ j (h : j < M.length), j < k → M[j] ≠ l) ∧ Hid (Below w.heap.size w wx))
    case atStart => exact ⟨0, Nat.zero_le _, rfl, rfl, fun j _ h => by omega, Below.refl _ _⟩
    case round =>
      obtain ⟨k, hk, rfl, rfl, hS, hbel⟩ := hrel
      have c0 : wr.cell? ⟨mb, 0, none⟩ = some (.slice al q cl) := (hbel.out.cell (p := ⟨mb, 0, none⟩) hmb).trans (hrow.cell 0)
      by_cases hkq : k < q
      · have i1 : (k : Int) < (q : Int) := by omega
        have kx : k < M.length := by rw [← HQ.out]; exact hkq
        obtain ⟨gl, rfl, hgl, hcell⟩ := HLC.out (by omega)
        obtain ⟨vk, hvk, hok⟩ := HA.out.lists k kx
        have c1 : wr.cell? ⟨gl, k, none⟩ = some vk := (hbel.out.cell (p := ⟨gl, k, none⟩) hgl).trans (hcell k vk hvk)
        have hS1 := same_any wr vk (.slice (some ⟨gv, 0, none⟩) l.length cv) M[k] l (hok.ens.below hbel.out (Nat.le_refl _)) (HV.out.ens.below hbel.out (Nat.le_refl _))
        obtain ⟨ak, ck, hvk2⟩ := hok.form
        subst hvk2
        have HS1 := Lib.hid hS1
        by_cases he : M[k] = l
        · have hfin : Hid (Fs.go (n + 1) l M = M ∧ Fs.at_ M l = k) := by
            refine ⟨?_, Fs.at_first kx he fun j h1 h2 => hS.out j h1 h2⟩
            unfold Fs.go
            rw [if_pos (he ▸ List.getElem_mem kx)]
          rw [decide_eq_true he] at HS1
          clear hS1 hS hok hcell hvk he
          generalize M[k].length = lk at *
          go_wp2_with (go_at_call 32; refine HS1.out.mono ?_; rintro e1 w1 ⟨rfl, hb1⟩; have HB1 := Lib.hid hb1; clear hb1)
          go_ret
          refine ⟨?_, ?_, ?_⟩
          · rw [hfin.out.1, hfin.out.2]; rfl
          · rw [hfin.out.1]
            exact ⟨_, _, _, HA.out.keep (hbel.out.trans (HB1.out.mono hbel.out.size))⟩
          · exact KeptT.of_below (hbel.out.trans (HB1.out.mono hbel.out.size))
        · rw [decide_eq_false he] at HS1
          have HS2 : Hid (∀ j (h : j < M.length), j < k + 1 → M[j] ≠ l) := fun j h1 h2 => by
            rcases Nat.lt_or_ge j k with q1 | q1
            · exact hS.out j h1 q1
            · obtain rfl : j = k := by omega
              exact he
          clear hS1 hS hok hcell hvk he
          generalize M[k].length = lk at *
          go_wp2_with (go_at_call 32; refine HS1.out.mono ?_; rintro e1 w1 ⟨rfl, hb1⟩; have HB1 : Hid (Below w.heap.size w w1) := hbel.out.trans (hb1.mono hbel.out.size); clear hb1)
          go_roundg (q - (k + 1))
          case rel => exact ⟨k + 1, by omega, rfl, by go_num, HS2, HB1⟩
          case measure => omega
      · obtain rfl : k = q := by omega
        have hnl : Hid (l ∉ M) := fun h => by
          obtain ⟨j, hj, he⟩ := List.getElem_of_mem h
          exact hS.out j hj (by rw [HQ.out]; exact hj) he
        have HA0 : Hid (MkA wr B mb (.slice al k cl) tv Ls M) := by show MkA _ _ _ _ _ _ _; rw [HQ.out]; exact HA.out.keep hbel.out
        have HK0 : Hid (KeptT [26] B w wr) := KeptT.of_below hbel.out
        have d0 := (hcv.below hbel.out hgv 0 hl0).1
        have d1 := (hcv.below hbel.out hgv 0 hl0).2
        rw [show 0 + 0 * 2 = 0 from rfl] at d0
        rw [show 0 + 0 * 2 + 1 = 1 from rfl] at d1
        have hlast : Hid (Fs.last l = if l[0].1 = [] then some l[0].2 else none) := by
          show _ = _
          cases l with
          | nil => cases hl0
          | cons e l => exact Fs.last_first
        have hem := bs_empty l[0].1
        have hx0 := HLW.out _ (List.getElem_mem hl0)
        unfold Fs.mx at hx0
        clear hcv hS hbel
        generalize l[0].1 = t0 at *
        generalize l[0].2 = x0 at *
        by_cases ht0 : t0 = []
        · have hE : (bs t0).toList.isEmpty = true := by rw [hem, ht0]; rfl
          rw [if_pos ht0] at hlast
          have hNum := Lib.hid (num_any wr x0 hx0.1 hx0.2)
          clear hem ht0
          generalize bs t0 = T0 at *
          go_wp2_with (go_at_call 31; refine hNum.out.mono ?_; rintro e1 w1 ⟨rfl, hb1⟩; have HA1 : Hid (∃ lv tv Ls, MkA w1 B mb lv tv Ls M) := ⟨_, _, _, HA0.out.keep hb1⟩; have HK1 : Hid (KeptT [26] B w w1) := HK0.out.trans (KeptT.of_below hb1); clear hb1)
          go_loopg [6, 7, 8] 256 (fun gg hv bv cv wx => ∃ (c : Nat), c ≤ 256 ∧ gg = 256 - c ∧ cv = .int .i64 (c : Int) ∧ hv = .int .i64 (2 * ((Fs.waysTo l c).length : Int) + 1) ∧ bv = .string (bs (Pl.numB x0 ++ Fs.wysB (Fs.fold n (Fs.waysTo l c) M) (Fs.waysTo l c))) ∧ Hid (∃ lv tv Ls, MkA wx B mb lv tv Ls (Fs.fold n (Fs.waysTo l c) M)) ∧ Hid (KeptT [26] B w wx))
          case atStart =>
            refine ⟨0, Nat.zero_le _, rfl, rfl, by first | rfl | simp [Fs.waysTo_zero], by first | rfl | simp [Fs.waysTo_zero, Fs.wysB], HA1, HK1⟩
          case round =>
            obtain ⟨c, hc, rfl, rfl, rfl, rfl, hMk, hKe⟩ := hrel
            have hws := Fs.waysTo_length l c
            have hbl := Fs.wysB_length (Fs.fold n (Fs.waysTo l c) M) (Fs.waysTo l c)
            have hv2 : OwnE wr B (.slice (some ⟨gv, 0, none⟩) l.length cv) l := HV.out.kt hKe.out (by decide)
            by_cases hcn : c < 256
            · have i1 : (c : Int) < 256 := by omega
              have hr := rests_any wr _ l (c : Int) hv2.ens (by omega) (by omega) HLW.out
              rw [sel_byte (by omega), Int.toNat_natCast] at hr
              have hsz : B ≤ wr.heap.size := by have := hKe.out.size; omega
              by_cases hbh : Fs.behind l (UInt8.ofNat c) = []
              · have hw1 : Fs.waysTo l (c + 1) = Fs.waysTo l c := Fs.waysTo_no hbh
                rw [hbh] at hr
                have HR := Lib.hid hr
                have HW1 := Lib.hid hw1
                clear hr hw1 hbh hv2 hbl
                obtain ⟨body, hbody⟩ : ∃ body, body = Pl.numB x0 ++ Fs.wysB (Fs.fold n (Fs.waysTo l c) M) (Fs.waysTo l c) := ⟨_, rfl⟩
                rw [← hbody]
                have HBODY := Lib.hid hbody
                clear hbody
                go_wp2_with (go_at_call 29; refine HR.out.mono ?_; rintro e1 w1 ⟨v1, rfl, hown1, hb1⟩; obtain ⟨a1, c1, hv1⟩ := hown1.form; subst hv1; have HB1 := Lib.hid hb1; clear hb1 hown1)
                have HM2 : Hid (∃ lv tv Ls, MkA w1 B mb lv tv Ls (Fs.fold n (Fs.waysTo l c) M)) := by
                  obtain ⟨x1, x2, x3, x4⟩ := hMk.out
                  exact ⟨x1, x2, x3, x4.keep HB1.out⟩
                have HK2 : Hid (KeptT [26] B w w1) := hKe.out.trans (KeptT.of_below HB1.out)
                clear HB1
                go_roundg (256 - (c + 1))
                case rel => exact ⟨c + 1, by omega, rfl, by go_num, by rw [HW1.out], by rw [HW1.out, HBODY.out], by rw [HW1.out]; exact HM2, HK2⟩
                case measure => omega
              · have hw1 : Fs.waysTo l (c + 1) = Fs.waysTo l c ++ [(UInt8.ofNat c, Fs.least (Fs.behind l (UInt8.ofNat c)), Fs.low (Fs.behind l (UInt8.ofNat c)))] := Fs.waysTo_yes hbh
                have hmem : (UInt8.ofNat c, Fs.least (Fs.behind l (UInt8.ofNat c)), Fs.low (Fs.behind l (UInt8.ofNat c))) ∈ Fs.ways l := Fs.mem_ways.2 ⟨hbh, rfl, rfl⟩
                obtain ⟨a1, a2, a3, a4⟩ := Fs.fold_net HG.out.rise hd (M := M) HN.out (Fs.waysTo_sub hc)
                have hfl := Fs.fold_length n (Fs.waysTo l c) M (fun w hw => (Fs.good_way HG.out.rise (Fs.waysTo_sub hc w hw)).rise)
                have hsum := Fs.waysTo_sum l (c + 1) 256 (by omega)
                rw [Fs.waysTo_all, hw1, List.map_append, List.sum_append] at hsum
                have htw := Fs.total_ways HG.out.rise
                have hdw := Fs.deep_way hmem
                have hgw := Fs.good_way HG.out.rise hmem
                have hlw2 := Fs.way_lw HLW.out hmem
                have hbl2 := Fs.behind_length l (UInt8.ofNat c)
                have hbd := Fs.least_bd (Fs.behind_lw HLW.out (UInt8.ofNat c))
                have hll := Fs.low_length (Fs.behind l (UInt8.ofNat c))
                have hb0 : 0 < (Fs.behind l (UInt8.ofNat c)).length := List.length_pos_iff.2 hbh
                have hFL := Fs.fold_lw (n := n) (ws := Fs.waysTo l c) HML.out (fun w hw => Fs.way_lw HLW.out (Fs.waysTo_sub hc w hw))
                simp only [List.map_cons, List.map_nil, List.sum_cons, List.sum_nil] at hsum
                have hsn : Fs.fold n (Fs.waysTo l (c + 1)) M = Fs.go n (Fs.low (Fs.behind l (UInt8.ofNat c))) (Fs.fold n (Fs.waysTo l c) M) := by rw [hw1, Fs.fold_snoc]
                have hgl := Fs.go_length n (Fs.low (Fs.behind l (UInt8.ofNat c))) (Fs.fold n (Fs.waysTo l c) M) hgw.rise
                obtain ⟨_, ⟨K, hKK⟩, hin⟩ := Fs.go_net n (Fs.low (Fs.behind l (UInt8.ofNat c))) (Fs.fold n (Fs.waysTo l c) M) a1 hgw (by first | omega | (dsimp only at hdw; omega))
                have hnx : Pl.numB x0 ++ Fs.wysB (Fs.fold n (Fs.waysTo l (c + 1)) M) (Fs.waysTo l (c + 1)) = (Pl.numB x0 ++ Fs.wysB (Fs.fold n (Fs.waysTo l c) M) (Fs.waysTo l c)) ++ Fs.wayB (UInt8.ofNat c, Fs.least (Fs.behind l (UInt8.ofNat c)), Fs.at_ (Fs.go n (Fs.low (Fs.behind l (UInt8.ofNat c))) (Fs.fold n (Fs.waysTo l c) M)) (Fs.low (Fs.behind l (UInt8.ofNat c)))) := by
                  rw [hsn, hw1, List.append_assoc]
                  congr 1
                  unfold Fs.wysB
                  rw [List.flatMap_append]
                  congr 1
                  · rw [hKK]
                    exact Fs.wysB_same a3
                  · simp
                have hatl := Fs.at_lt hin
                have hmle : M.length ≤ k := by have := HQ.out; omega
                have IHC : Hid (∀ (wx : World) (vx lvx tvx : Value) (Lsx : List Value), MkA wx B mb lvx tvx Lsx (Fs.fold n (Fs.waysTo l c) M) → OwnE wx B vx (Fs.low (Fs.behind l (UInt8.ofNat c))) → B ≤ wx.heap.size → Calls Try.prog 30 #[.pointer (some ⟨mb, 0, none⟩), vx] wx (NodePost wx B mb (Fs.go n (Fs.low (Fs.behind l (UInt8.ofNat c))) (Fs.fold n (Fs.waysTo l c) M)) (Fs.low (Fs.behind l (UInt8.ofNat c))))) := fun wx vx lvx tvx Lsx hmx hvx hbx =>
                  ih.out _ _ wx B mb vx lvx tvx Lsx hmx hvx hbx hgw hlw2 (by first | omega | (dsimp only at hdw; omega)) (by rw [hll]; omega) a1 hFL (by first | omega | (dsimp only at hsum; omega))
                have HNX := Lib.hid hnx
                have HSN := Lib.hid hsn
                have hle : (Fs.fold n (Fs.waysTo l c) M).length + 1 + Fs.total (Fs.low (Fs.behind l (UInt8.ofNat c))) ≤ 8388608 := by first | omega | (dsimp only at hsum; omega)
                have HLN : Hid ((Fs.waysTo l (c + 1)).length = (Fs.waysTo l c).length + 1) := by show _ = _; rw [hw1]; simp
                clear hnx hsn hw1 hmem a1 a2 a3 a4 hfl hsum htw hdw hgw hlw2 hFL hKK hin hv2 hbh
                unfold Fs.mx at hbd
                unfold RestPost at hr
                have HR := Lib.hid hr
                generalize hR : Fs.low (Fs.behind l (UInt8.ofNat c)) = R at *
                generalize hF : Fs.fold n (Fs.waysTo l c) M = F at *
                generalize hme : Fs.least (Fs.behind l (UInt8.ofNat c)) = m at *
                have HMR : Hid (R.length = (Fs.behind l (UInt8.ofNat c)).length) := hll
                clear hR hF hme hr
                obtain ⟨body, hbody⟩ : ∃ body, body = Pl.numB x0 ++ Fs.wysB F (Fs.waysTo l c) := ⟨_, rfl⟩
                rw [← hbody] at HNX
                rw [← hbody]
                have hbsz : body.length ≤ 10000 := by
                  rw [hbody, List.length_append]
                  have := Fs.finB_len (some x0)
                  have e : (Pl.numB x0 : List UInt8) = Fs.finB (some x0) := rfl
                  rw [e]
                  omega
                clear hbody hbl
                obtain ⟨at2, hat2⟩ : ∃ at2, at2 = Fs.at_ (Fs.go n R F) R := ⟨_, rfl⟩
                rw [← hat2] at hatl HNX
                have HAT2 := Lib.hid hat2
                clear hat2
                have n1 := numB_length (c : Int)
                have n2 := numB_length m
                have n3 := numB_length (at2 : Int)
                have hwayB : Hid (Fs.wayB (UInt8.ofNat c, m, at2) = Pl.numB (c : Int) ++ (Pl.numB m ++ Pl.numB (at2 : Int))) := by
                  show _ = _
                  unfold Fs.wayB
                  rw [show ((UInt8.ofNat c).toNat : Nat) = c by rw [UInt8.toNat_ofNat']; omega]
                obtain ⟨b1, hB1⟩ : ∃ b1, b1 = Pl.numB (c : Int) := ⟨_, rfl⟩
                obtain ⟨b2, hB2⟩ : ∃ b2, b2 = Pl.numB m := ⟨_, rfl⟩
                obtain ⟨b3, hB3⟩ : ∃ b3, b3 = Pl.numB (at2 : Int) := ⟨_, rfl⟩
                have N1 : Hid (∀ wx, Calls Try.prog 31 #[.int .i64 (c : Int)] wx fun e w' => e = .returned (.string (bs b1)) ∧ Below wx.heap.size wx w') := fun wx => by rw [hB1]; exact num_any wx (c : Int) (by omega) (by omega)
                have N2 : Hid (∀ wx, Calls Try.prog 31 #[.int .i64 m] wx fun e w' => e = .returned (.string (bs b2)) ∧ Below wx.heap.size wx w') := fun wx => by rw [hB2]; exact num_any wx m hbd.1 hbd.2
                have N3 : Hid (∀ wx, Calls Try.prog 31 #[.int .i64 (at2 : Int)] wx fun e w' => e = .returned (.string (bs b3)) ∧ Below wx.heap.size wx w') := fun wx => by rw [hB3]; exact num_any wx (at2 : Int) (by omega) (by omega)
                rw [← hB1] at n1 hwayB
                rw [← hB2] at n2 hwayB
                rw [← hB3] at n3 hwayB
                clear hB1 hB2 hB3
                have z0 := bs_size body
                have z1 := bs_size b1
                have z2 := bs_size b2
                have z3 := bs_size b3
                have HCAT : Hid (((bs body ++ bs b1) ++ bs b2) ++ bs b3 = bs (body ++ Fs.wayB (UInt8.ofNat c, m, at2))) := by
                  show _ = _
                  rw [hwayB.out, bs_append, bs_append, bs_append, List.append_assoc, List.append_assoc]
                have p1 : ¬ 9223372036854775807 < (bs body).size + (bs b1).size := by omega
                have p2 : ¬ 9223372036854775807 < (bs body).size + (bs b1).size + (bs b2).size := by omega
                have p3 : ¬ 9223372036854775807 < (bs body).size + (bs b1).size + (bs b2).size + (bs b3).size := by omega
                clear hgl hle hatl hbl2
                have hb00 : ¬ (R.length : Int) = 0 := by rw [hll]; omega
                have hb01 : ((R.length : Int) == 0) = false := by rw [beq_eq_false_iff_ne]; exact hb00
                clear hll hb0 z0 z1 z2 z3 n1 n2 n3 hbsz
                generalize bs body = SB at *
                generalize bs b1 = S1 at *
                generalize bs b2 = S2 at *
                generalize bs b3 = S3 at *
                go_wp2_with (go_at_call 29; refine HR.out.mono ?_; rintro e1 w1 ⟨v1, rfl, hown1, hb1⟩; obtain ⟨a1, c1, hv1⟩ := hown1.form; subst hv1; have HB1 := Lib.hid hb1; have HOW1 := Lib.hid hown1; clear hb1 hown1)
                have HM1 : Hid (∃ lv tv Ls, MkA w1 B mb lv tv Ls F) := by
                  obtain ⟨x1, x2, x3, x4⟩ := hMk.out
                  exact ⟨x1, x2, x3, x4.keep HB1.out⟩
                have HK1' : Hid (KeptT [26] B w w1) := hKe.out.trans (KeptT.of_below HB1.out)
                have HO1' : Hid (OwnE w1 B (.slice a1 R.length c1) R) := HOW1.out.base hsz
                have hs1 : B ≤ w1.heap.size := Nat.le_trans hsz HB1.out.size
                clear HOW1 HB1 HR
                have IHD : Hid (∀ (wx : World) (vx lvx tvx : Value) (Lsx : List Value), MkA wx B mb lvx tvx Lsx F → OwnE wx B vx R → B ≤ wx.heap.size → Calls Try.prog 30 #[.pointer (some ⟨mb, 0, none⟩), vx] wx fun e w' => e = .returned (.int .i64 (at2 : Int)) ∧ (∃ lv tv Ls, MkA w' B mb lv tv Ls (Fs.go n R F)) ∧ KeptT [26] B wx w') := fun wx vx lvx tvx Lsx hmx hvx hbx => by
                  rw [HAT2.out]
                  exact IHC.out wx vx lvx tvx Lsx hmx hvx hbx
                clear IHC
                refine (N1.out _).mono ?_
                rintro e2 w2 ⟨rfl, hb2⟩
                have HB2 := Lib.hid hb2
                clear hb2
                go_wp2_with fail
                refine (N2.out _).mono ?_
                rintro e3 w3 ⟨rfl, hb3⟩
                have HB3 : Hid (Below w1.heap.size w1 w3) := HB2.out.trans (hb3.mono HB2.out.size)
                clear hb3
                go_wp2_with fail
                have HO3 : Hid (OwnE w3 B (.slice a1 R.length c1) R) := HO1'.out.kt (T := [26]) (KeptT.of_below HB3.out) (by decide)
                have hs3 : B ≤ w3.heap.size := Nat.le_trans hs1 HB3.out.size
                have HM3 : Hid (∃ lv tv Ls, MkA w3 B mb lv tv Ls F) := by
                  obtain ⟨x1, x2, x3, x4⟩ := HM1.out
                  exact ⟨x1, x2, x3, x4.keep HB3.out⟩
                obtain ⟨x1, x2, x3, x4⟩ := HM3.out
                have HC3 := Lib.hid (IHD.out w3 _ x1 x2 x3 x4 HO3.out hs3)
                clear x4 HM3
                refine HC3.out.mono ?_
                rintro e4 w4 ⟨rfl, hm4, hk4⟩
                have HM4 := Lib.hid hm4
                have HK4 : Hid (KeptT [26] B w w4) := (HK1'.out.trans (KeptT.of_below HB3.out)).trans hk4
                clear hm4 hk4
                go_wp2_with fail
                refine (N3.out _).mono ?_
                rintro e5 w5 ⟨rfl, hb5⟩
                have HK5 : Hid (KeptT [26] B w w5) := HK4.out.trans (KeptT.of_below hb5)
                have HM5 : Hid (∃ lv tv Ls, MkA w5 B mb lv tv Ls (Fs.fold n (Fs.waysTo l (c + 1)) M)) := by
                  obtain ⟨y1, y2, y3, y4⟩ := HM4.out
                  refine ⟨y1, y2, y3, ?_⟩
                  rw [HSN.out]
                  exact y4.keep hb5
                clear hb5
                go_wp2_with fail
                go_roundg (256 - (c + 1))
                case rel => exact ⟨c + 1, by omega, rfl, by go_num, by rw [HLN.out]; (congr 1 <;> omega), by rw [HNX.out, ← HCAT.out], HM5, HK5⟩
                case measure => omega
            · obtain rfl : c = 256 := by omega
              rw [Fs.waysTo_all] at hMk hws hbl ⊢
              obtain ⟨a1, ⟨K, a2⟩, a3, a4⟩ := Fs.fold_net HG.out.rise hd (M := M) HN.out (fun w (h : w ∈ Fs.ways l) => h)
              obtain ⟨g1, g2⟩ := Fs.go_fold HN.out HG.out.rise hd
              have hnF : l ∉ Fs.fold n (Fs.ways l) M := fun q1 => hnl.out (by rw [g2 q1] at q1; exact q1)
              rw [if_neg hnF] at g1
              have hFl := Fs.fold_length n (Fs.ways l) M (fun w hw => (Fs.good_way HG.out.rise hw).rise)
              have htw := Fs.total_ways HG.out.rise
              have hmle : M.length ≤ k := by have := HQ.out; omega
              have htx := Fs.txt_snoc a1 a3
              have hnb := Fs.nodeB_eq (Fs.fold n (Fs.ways l) M) l
              have hatL := Fs.at_last hnF
              have hws2 := Fs.ways_few l
              rw [hlast.out] at hnb
              have HGO := Lib.hid g1
              have HATL := Lib.hid hatL
              have HTX := Lib.hid htx
              generalize hF : Fs.fold n (Fs.ways l) M = F at *
              have hFk : F.length ≤ 8388608 := by omega
              obtain ⟨body, hbody⟩ : ∃ body, body = Pl.numB x0 ++ Fs.wysB F (Fs.ways l) := ⟨_, rfl⟩
              rw [← hbody]
              have hbsz : body.length ≤ 10000 := by
                rw [hbody, List.length_append]
                have := Fs.finB_len (some x0)
                have e : (Pl.numB x0 : List UInt8) = Fs.finB (some x0) := rfl
                rw [e]
                omega
              obtain ⟨hw, hhw⟩ : ∃ hw, hw = (Fs.ways l).length := ⟨_, rfl⟩
              rw [← hhw] at hws hws2 hbl ⊢
              have HNB : Hid (Fs.nodeB F l = Pl.numB (2 * (hw : Int) + 1) ++ body) := by
                show _ = _
                rw [hnb, hbody, hhw]
                rfl
              obtain ⟨bh, hbh⟩ : ∃ bh, bh = Pl.numB (2 * (hw : Int) + 1) := ⟨_, rfl⟩
              have N4 : Hid (∀ wx, Calls Try.prog 31 #[.int .i64 (2 * (hw : Int) + 1)] wx fun e w' => e = .returned (.string (bs bh)) ∧ Below wx.heap.size wx w') := fun wx => by rw [hbh]; exact num_any wx (2 * (hw : Int) + 1) (by omega) (by omega)
              have n4 := numB_length (2 * (hw : Int) + 1)
              rw [← hbh] at n4 HNB
              have HCAT : Hid (bs bh ++ bs body = bs (Fs.nodeB F l)) := by show _ = _; rw [bs_append, HNB.out]
              have p4 : ¬ 9223372036854775807 < (bs bh).size + (bs body).size := by rw [bs_size, bs_size]; omega
              clear hF a1 a2 a3 a4 g1 g2 hFl htw htx hnb hatL hbody hbsz hhw hbh n4 hws hws2 hbl hnF
              obtain ⟨lv, tv2, Ls2, hMA⟩ := hMk.out
              obtain ⟨al2, cl2, hlv2, _, _⟩ := own_form hMA.left
              subst hlv2
              obtain ⟨at3, ct3, htv2, _, _⟩ := own_form hMA.text
              subst htv2
              have hBr : B ≤ wr.heap.size := by have := hKe.out.size; omega
              have k0 : wr.cell? ⟨mb, 0, none⟩ = some (.slice al2 F.length cl2) := hMA.row.cell 0
              have HMA := Lib.hid hMA
              have HV2 := Lib.hid hv2
              obtain ⟨iL, hiL, hyL0, hyL1, hyL2⟩ := info_parts Try.infoL
              obtain ⟨iS, hiS, hyS0, hyS1, hyS2⟩ := info_parts Try.infoS
              have HLT : Hid (∀ g c w3, w3.ownsRow B 22 1 (.slice (some ⟨g, 0, none⟩) (F.length + 1) c) (F.length + 1) (Ls2 ++ [.slice (some ⟨gv, 0, none⟩) l.length cv]) → Grew wr w3 (.slice al2 F.length cl2) (.slice (some ⟨g, 0, none⟩) (F.length + 1) c) → _) := fun g c w3 h3 h4 => MkA.left_to (l := l) hMA hv2 h3 h4
              have HMB : Hid (∀ v' w3, Grew wr w3 (.slice al2 F.length cl2) v' → w3.cell? ⟨mb, 0, none⟩ = some (.slice al2 F.length cl2) ∧ w3.frozen? ⟨mb, 0, none⟩ = false) := fun v' w3 h => by
                have hr3 : RowT 67 w3 mb _ := hMA.row.keep (h.far hMA.row.lt (fun e => by obtain ⟨_, _, cc, ff, hh⟩ := own_kind hMA.left mb e; have := kind_inj hh hMA.row; revert this; decide))
                exact ⟨hr3.cell 0, hr3.frozen 0⟩
              clear hMA hv2
              go_wp2_with (at_builtin; go_loud ((refine wpList_pushR rfl _ _ 65 22 rfl iL _ 1 24 Try.underlying65 hiL hyL0 hyL1 hyL2 rfl (by decide) B hBr (.slice al2 F.length cl2) F.length Ls2 rfl HMA.out.left [.slice (some ⟨gv, 0, none⟩) l.length cv] rfl (one_of rfl) rfl (by omega) (by omega) ?_; intro g5 cap5 w5 hown5 hgr5; obtain ⟨m0, f0⟩ := HMB.out _ _ hgr5; have HL5 := Lib.hid (HLT.out _ _ _ hown5 hgr5); clear hown5 hgr5)))
              go_wp2_with fail
              have hK6 : Hid (KeptT [26] B w (w5.setCell ⟨mb, 0, none⟩ (.slice (some ⟨g5, 0, none⟩) (F.length + 1) cap5))) := hKe.out.trans HL5.out.2.2.2.2
              have HR6 := Lib.hid (And.intro HL5.out.1 (And.intro HL5.out.2.1 (And.intro HL5.out.2.2.1 HL5.out.2.2.2.1)))
              clear HL5 m0 f0 HLT HMB HMA
              generalize w5.setCell ⟨mb, 0, none⟩ (.slice (some ⟨g5, 0, none⟩) (F.length + 1) cap5) = w6 at *
              have hs6 : B ≤ w6.heap.size := by have := hK6.out.size; omega
              have e1 : w6.drew.cell? ⟨mb, 1, none⟩ = some (.slice at3 F.length ct3) := HR6.out.1.cell 1
              have HX7 : Hid (∀ w7, Below w6.drew.heap.size w6.drew w7 → RowT 67 w7 mb #[.slice (some ⟨g5, 0, none⟩) (F.length + 1) cap5, .slice at3 F.length ct3] ∧ w7.ownsRow B 22 1 (.slice (some ⟨g5, 0, none⟩) (F.length + 1) cap5) (F ++ [l]).length (Ls2 ++ [.slice (some ⟨gv, 0, none⟩) l.length cv]) ∧ (∀ i (hi : i < (F ++ [l]).length), ∃ v', (Ls2 ++ [.slice (some ⟨gv, 0, none⟩) l.length cv])[i]? = some v' ∧ OwnE w7 B v' (F ++ [l])[i]) ∧ w7.ownsRow B 9 1 (.slice at3 F.length ct3) F.length (strV (Fs.txt F)) ∧ w7.cell? ⟨mb, 1, none⟩ = some (.slice at3 F.length ct3) ∧ B ≤ w7.heap.size) := fun w7 hb7 => by
                obtain ⟨y1, y2, y3, y4⟩ := HR6.out
                have hb8 : Below w6.heap.size w6 w7 := (Below.refl _ _).drew.trans hb7
                have hr7 : RowT 67 w7 mb _ := y1.keep (hb8.block _ y1.lt)
                refine ⟨hr7, ?_, fun i hi => ?_, ownsRow_keep y4 fun k hk => hb8.block k (own_kind y4 k hk).2.1, hr7.cell 1, Nat.le_trans hs6 hb8.size⟩
                · have := ownsRow_keep y2 fun k hk => hb8.block k (own_kind y2 k hk).2.1
                  simpa using this
                · obtain ⟨v', z1, z2⟩ := y3 i hi
                  exact ⟨v', z1, ownsRow_keep z2 fun k hk => hb8.block k (own_kind z2 k hk).2.1⟩
              have HFIN : Hid (∀ w7 g8 cap8 w8, Below w6.drew.heap.size w6.drew w7 → w8.ownsRow B 9 1 (.slice (some ⟨g8, 0, none⟩) (F.length + 1) cap8) (F.length + 1) (strV (Fs.txt F) ++ [.string (bs bh ++ bs body)]) → Grew w7 w8 (.slice at3 F.length ct3) (.slice (some ⟨g8, 0, none⟩) (F.length + 1) cap8) → (w8.cell? ⟨mb, 1, none⟩ = some (.slice at3 F.length ct3) ∧ w8.frozen? ⟨mb, 1, none⟩ = false) ∧ MkA (w8.setCell ⟨mb, 1, none⟩ (.slice (some ⟨g8, 0, none⟩) (F.length + 1) cap8)) B mb (.slice (some ⟨g5, 0, none⟩) (F.length + 1) cap5) (.slice (some ⟨g8, 0, none⟩) (F.length + 1) cap8) (Ls2 ++ [.slice (some ⟨gv, 0, none⟩) l.length cv]) (F ++ [l]) ∧ KeptT [26] B w (w8.setCell ⟨mb, 1, none⟩ (.slice (some ⟨g8, 0, none⟩) (F.length + 1) cap8))) := fun w7 g8 cap8 w8 hb7 h8 hg8 => by
                obtain ⟨y1, y2, y3, y4, _, _⟩ := HX7.out w7 hb7
                rw [HCAT.out] at h8
                obtain ⟨z1, z2⟩ := text_to y1 HA0.out.base y2 y3 y4 (S := Fs.txt F) (t := Fs.nodeB F l) (N := F ++ [l]) HTX.out.symm (by simp) h8 hg8
                have hr8 : RowT 67 w8 mb _ := y1.keep (hg8.far y1.lt (fun e => by obtain ⟨_, _, cc, ff, hh⟩ := own_kind y4 mb e; have := kind_inj hh y1; revert this; decide))
                exact ⟨⟨hr8.cell 1, hr8.frozen 1⟩, z1, (hK6.out.trans (KeptT.of_below ((Below.refl _ _).drew.trans hb7))).trans z2⟩
              have HAB := HA0.out.base
              clear HCAT
              generalize bs bh = SH at *
              generalize bs body = SB at *
              go_region_law ((first | (refine step_pushR (w := w7) rfl _ _ 40 9 (by rfl) iS _ 1 16 Try.underlying40 hiS hyS0 hyS1 hyS2 rfl (by decide) B (HX7.out w7 HB7.out).2.2.2.2.2 (.slice at3 F.length ct3) F.length (strV (Fs.txt F)) (by rfl) (HX7.out w7 HB7.out).2.2.2.1 ((Below.refl _ _).alloc (Nat.le_refl _) _) [.string (SH ++ SB)] rfl (one_of rfl) ⟨w7.heap.size, 0, none⟩ (new_cells w7 _ _) (by rfl) (by omega) (by omega) ?_; intro g8 cap8 w8 hown8 hgr8; obtain ⟨⟨m8, f8⟩, hq8⟩ := HFIN.out w7 g8 cap8 w8 HB7.out hown8 hgr8; have HQ8 := Lib.hid hq8; clear hown8 hgr8 hq8) | (go_simp; go_wp2_with (go_at_call 31; refine (N4.out _).mono ?_; rintro e7 w7 ⟨rfl, hb7⟩; have x7 := (HX7.out w7 hb7).2.2.2.2.1; have x8 : (w7.alloc (.cells #[.string (SH ++ SB)] 9)).cell? ⟨mb, 1, none⟩ = some (.slice at3 F.length ct3) := (((Below.refl w7.heap.size w7).alloc (Nat.le_refl _) _).cell (p := ⟨mb, 1, none⟩) (HX7.out w7 hb7).1.lt).trans x7; have HB7 := Lib.hid hb7; clear hb7))))
              all_goals
                have HQ9 := Lib.hid HQ8.out.1
                have HK9 := Lib.hid HQ8.out.2
                have c9 : (w8.setCell ⟨mb, 1, none⟩ (.slice (some ⟨g8, 0, none⟩) (F.length + 1) cap8)).cell? ⟨mb, 0, none⟩ = some (.slice (some ⟨g5, 0, none⟩) (F.length + 1) cap5) := HQ9.out.row.cell 0
                clear HQ8 m8 f8
                generalize w8.setCell ⟨mb, 1, none⟩ (.slice (some ⟨g8, 0, none⟩) (F.length + 1) cap8) = w9 at *
                go_wp2_with fail
                go_ret
                refine ⟨?_, ?_, HK9.out⟩
                · rw [HGO.out, HATL.out]
                  exact ret_int (by omega)
                · rw [HGO.out]
                  exact ⟨_, _, _, HQ9.out⟩
        · have hE : (bs t0).toList.isEmpty = false := by rw [hem]; cases t0 with | nil => exact absurd rfl ht0 | cons _ _ => rfl
          rw [if_neg ht0] at hlast
          have HA1 : Hid (∃ lv tv Ls, MkA wr B mb lv tv Ls M) := ⟨_, _, _, HA0.out⟩
          have HK1 := HK0
          clear hem ht0
          generalize bs t0 = T0 at *
          go_wp2_with fail
          go_loopg [6, 7, 8] 256 (fun gg hv bv cv wx => ∃ (c : Nat), c ≤ 256 ∧ gg = 256 - c ∧ cv = .int .i64 (c : Int) ∧ hv = .int .i64 (2 * ((Fs.waysTo l c).length : Int)) ∧ bv = .string (bs ([] ++ Fs.wysB (Fs.fold n (Fs.waysTo l c) M) (Fs.waysTo l c))) ∧ Hid (∃ lv tv Ls, MkA wx B mb lv tv Ls (Fs.fold n (Fs.waysTo l c) M)) ∧ Hid (KeptT [26] B w wx))
          case atStart =>
            refine ⟨0, Nat.zero_le _, rfl, rfl, by first | rfl | simp [Fs.waysTo_zero], by first | rfl | simp [Fs.waysTo_zero, Fs.wysB], HA1, HK1⟩
          case round =>
            obtain ⟨c, hc, rfl, rfl, rfl, rfl, hMk, hKe⟩ := hrel
            have hws := Fs.waysTo_length l c
            have hbl := Fs.wysB_length (Fs.fold n (Fs.waysTo l c) M) (Fs.waysTo l c)
            have hv2 : OwnE wr B (.slice (some ⟨gv, 0, none⟩) l.length cv) l := HV.out.kt hKe.out (by decide)
            by_cases hcn : c < 256
            · have i1 : (c : Int) < 256 := by omega
              have hr := rests_any wr _ l (c : Int) hv2.ens (by omega) (by omega) HLW.out
              rw [sel_byte (by omega), Int.toNat_natCast] at hr
              have hsz : B ≤ wr.heap.size := by have := hKe.out.size; omega
              by_cases hbh : Fs.behind l (UInt8.ofNat c) = []
              · have hw1 : Fs.waysTo l (c + 1) = Fs.waysTo l c := Fs.waysTo_no hbh
                rw [hbh] at hr
                have HR := Lib.hid hr
                have HW1 := Lib.hid hw1
                clear hr hw1 hbh hv2 hbl
                obtain ⟨body, hbody⟩ : ∃ body, body = ([] : List UInt8) ++ Fs.wysB (Fs.fold n (Fs.waysTo l c) M) (Fs.waysTo l c) := ⟨_, rfl⟩
                rw [← hbody]
                have HBODY := Lib.hid hbody
                clear hbody
                go_wp2_with (go_at_call 29; refine HR.out.mono ?_; rintro e1 w1 ⟨v1, rfl, hown1, hb1⟩; obtain ⟨a1, c1, hv1⟩ := hown1.form; subst hv1; have HB1 := Lib.hid hb1; clear hb1 hown1)
                have HM2 : Hid (∃ lv tv Ls, MkA w1 B mb lv tv Ls (Fs.fold n (Fs.waysTo l c) M)) := by
                  obtain ⟨x1, x2, x3, x4⟩ := hMk.out
                  exact ⟨x1, x2, x3, x4.keep HB1.out⟩
                have HK2 : Hid (KeptT [26] B w w1) := hKe.out.trans (KeptT.of_below HB1.out)
                clear HB1
                go_roundg (256 - (c + 1))
                case rel => exact ⟨c + 1, by omega, rfl, by go_num, by rw [HW1.out], by rw [HW1.out, HBODY.out], by rw [HW1.out]; exact HM2, HK2⟩
                case measure => omega
              · have hw1 : Fs.waysTo l (c + 1) = Fs.waysTo l c ++ [(UInt8.ofNat c, Fs.least (Fs.behind l (UInt8.ofNat c)), Fs.low (Fs.behind l (UInt8.ofNat c)))] := Fs.waysTo_yes hbh
                have hmem : (UInt8.ofNat c, Fs.least (Fs.behind l (UInt8.ofNat c)), Fs.low (Fs.behind l (UInt8.ofNat c))) ∈ Fs.ways l := Fs.mem_ways.2 ⟨hbh, rfl, rfl⟩
                obtain ⟨a1, a2, a3, a4⟩ := Fs.fold_net HG.out.rise hd (M := M) HN.out (Fs.waysTo_sub hc)
                have hfl := Fs.fold_length n (Fs.waysTo l c) M (fun w hw => (Fs.good_way HG.out.rise (Fs.waysTo_sub hc w hw)).rise)
                have hsum := Fs.waysTo_sum l (c + 1) 256 (by omega)
                rw [Fs.waysTo_all, hw1, List.map_append, List.sum_append] at hsum
                have htw := Fs.total_ways HG.out.rise
                have hdw := Fs.deep_way hmem
                have hgw := Fs.good_way HG.out.rise hmem
                have hlw2 := Fs.way_lw HLW.out hmem
                have hbl2 := Fs.behind_length l (UInt8.ofNat c)
                have hbd := Fs.least_bd (Fs.behind_lw HLW.out (UInt8.ofNat c))
                have hll := Fs.low_length (Fs.behind l (UInt8.ofNat c))
                have hb0 : 0 < (Fs.behind l (UInt8.ofNat c)).length := List.length_pos_iff.2 hbh
                have hFL := Fs.fold_lw (n := n) (ws := Fs.waysTo l c) HML.out (fun w hw => Fs.way_lw HLW.out (Fs.waysTo_sub hc w hw))
                simp only [List.map_cons, List.map_nil, List.sum_cons, List.sum_nil] at hsum
                have hsn : Fs.fold n (Fs.waysTo l (c + 1)) M = Fs.go n (Fs.low (Fs.behind l (UInt8.ofNat c))) (Fs.fold n (Fs.waysTo l c) M) := by rw [hw1, Fs.fold_snoc]
                have hgl := Fs.go_length n (Fs.low (Fs.behind l (UInt8.ofNat c))) (Fs.fold n (Fs.waysTo l c) M) hgw.rise
                obtain ⟨_, ⟨K, hKK⟩, hin⟩ := Fs.go_net n (Fs.low (Fs.behind l (UInt8.ofNat c))) (Fs.fold n (Fs.waysTo l c) M) a1 hgw (by first | omega | (dsimp only at hdw; omega))
                have hnx : ([] : List UInt8) ++ Fs.wysB (Fs.fold n (Fs.waysTo l (c + 1)) M) (Fs.waysTo l (c + 1)) = (([] : List UInt8) ++ Fs.wysB (Fs.fold n (Fs.waysTo l c) M) (Fs.waysTo l c)) ++ Fs.wayB (UInt8.ofNat c, Fs.least (Fs.behind l (UInt8.ofNat c)), Fs.at_ (Fs.go n (Fs.low (Fs.behind l (UInt8.ofNat c))) (Fs.fold n (Fs.waysTo l c) M)) (Fs.low (Fs.behind l (UInt8.ofNat c)))) := by
                  rw [hsn, hw1, List.append_assoc]
                  congr 1
                  unfold Fs.wysB
                  rw [List.flatMap_append]
                  congr 1
                  · rw [hKK]
                    exact Fs.wysB_same a3
                  · simp
                have hatl := Fs.at_lt hin
                have hmle : M.length ≤ k := by have := HQ.out; omega
                have IHC : Hid (∀ (wx : World) (vx lvx tvx : Value) (Lsx : List Value), MkA wx B mb lvx tvx Lsx (Fs.fold n (Fs.waysTo l c) M) → OwnE wx B vx (Fs.low (Fs.behind l (UInt8.ofNat c))) → B ≤ wx.heap.size → Calls Try.prog 30 #[.pointer (some ⟨mb, 0, none⟩), vx] wx (NodePost wx B mb (Fs.go n (Fs.low (Fs.behind l (UInt8.ofNat c))) (Fs.fold n (Fs.waysTo l c) M)) (Fs.low (Fs.behind l (UInt8.ofNat c))))) := fun wx vx lvx tvx Lsx hmx hvx hbx =>
                  ih.out _ _ wx B mb vx lvx tvx Lsx hmx hvx hbx hgw hlw2 (by first | omega | (dsimp only at hdw; omega)) (by rw [hll]; omega) a1 hFL (by first | omega | (dsimp only at hsum; omega))
                have HNX := Lib.hid hnx
                have HSN := Lib.hid hsn
                have hle : (Fs.fold n (Fs.waysTo l c) M).length + 1 + Fs.total (Fs.low (Fs.behind l (UInt8.ofNat c))) ≤ 8388608 := by first | omega | (dsimp only at hsum; omega)
                have HLN : Hid ((Fs.waysTo l (c + 1)).length = (Fs.waysTo l c).length + 1) := by show _ = _; rw [hw1]; simp
                clear hnx hsn hw1 hmem a1 a2 a3 a4 hfl hsum htw hdw hgw hlw2 hFL hKK hin hv2 hbh
                unfold Fs.mx at hbd
                unfold RestPost at hr
                have HR := Lib.hid hr
                generalize hR : Fs.low (Fs.behind l (UInt8.ofNat c)) = R at *
                generalize hF : Fs.fold n (Fs.waysTo l c) M = F at *
                generalize hme : Fs.least (Fs.behind l (UInt8.ofNat c)) = m at *
                have HMR : Hid (R.length = (Fs.behind l (UInt8.ofNat c)).length) := hll
                clear hR hF hme hr
                obtain ⟨body, hbody⟩ : ∃ body, body = ([] : List UInt8) ++ Fs.wysB F (Fs.waysTo l c) := ⟨_, rfl⟩
                rw [← hbody] at HNX
                rw [← hbody]
                have hbsz : body.length ≤ 10000 := by
                  rw [hbody, List.length_append]
                  have := Fs.finB_len (none)
                  have e : (([] : List UInt8) : List UInt8) = Fs.finB (none) := rfl
                  rw [e]
                  omega
                clear hbody hbl
                obtain ⟨at2, hat2⟩ : ∃ at2, at2 = Fs.at_ (Fs.go n R F) R := ⟨_, rfl⟩
                rw [← hat2] at hatl HNX
                have HAT2 := Lib.hid hat2
                clear hat2
                have n1 := numB_length (c : Int)
                have n2 := numB_length m
                have n3 := numB_length (at2 : Int)
                have hwayB : Hid (Fs.wayB (UInt8.ofNat c, m, at2) = Pl.numB (c : Int) ++ (Pl.numB m ++ Pl.numB (at2 : Int))) := by
                  show _ = _
                  unfold Fs.wayB
                  rw [show ((UInt8.ofNat c).toNat : Nat) = c by rw [UInt8.toNat_ofNat']; omega]
                obtain ⟨b1, hB1⟩ : ∃ b1, b1 = Pl.numB (c : Int) := ⟨_, rfl⟩
                obtain ⟨b2, hB2⟩ : ∃ b2, b2 = Pl.numB m := ⟨_, rfl⟩
                obtain ⟨b3, hB3⟩ : ∃ b3, b3 = Pl.numB (at2 : Int) := ⟨_, rfl⟩
                have N1 : Hid (∀ wx, Calls Try.prog 31 #[.int .i64 (c : Int)] wx fun e w' => e = .returned (.string (bs b1)) ∧ Below wx.heap.size wx w') := fun wx => by rw [hB1]; exact num_any wx (c : Int) (by omega) (by omega)
                have N2 : Hid (∀ wx, Calls Try.prog 31 #[.int .i64 m] wx fun e w' => e = .returned (.string (bs b2)) ∧ Below wx.heap.size wx w') := fun wx => by rw [hB2]; exact num_any wx m hbd.1 hbd.2
                have N3 : Hid (∀ wx, Calls Try.prog 31 #[.int .i64 (at2 : Int)] wx fun e w' => e = .returned (.string (bs b3)) ∧ Below wx.heap.size wx w') := fun wx => by rw [hB3]; exact num_any wx (at2 : Int) (by omega) (by omega)
                rw [← hB1] at n1 hwayB
                rw [← hB2] at n2 hwayB
                rw [← hB3] at n3 hwayB
                clear hB1 hB2 hB3
                have z0 := bs_size body
                have z1 := bs_size b1
                have z2 := bs_size b2
                have z3 := bs_size b3
                have HCAT : Hid (((bs body ++ bs b1) ++ bs b2) ++ bs b3 = bs (body ++ Fs.wayB (UInt8.ofNat c, m, at2))) := by
                  show _ = _
                  rw [hwayB.out, bs_append, bs_append, bs_append, List.append_assoc, List.append_assoc]
                have p1 : ¬ 9223372036854775807 < (bs body).size + (bs b1).size := by omega
                have p2 : ¬ 9223372036854775807 < (bs body).size + (bs b1).size + (bs b2).size := by omega
                have p3 : ¬ 9223372036854775807 < (bs body).size + (bs b1).size + (bs b2).size + (bs b3).size := by omega
                clear hgl hle hatl hbl2
                have hb00 : ¬ (R.length : Int) = 0 := by rw [hll]; omega
                have hb01 : ((R.length : Int) == 0) = false := by rw [beq_eq_false_iff_ne]; exact hb00
                clear hll hb0 z0 z1 z2 z3 n1 n2 n3 hbsz
                generalize bs body = SB at *
                generalize bs b1 = S1 at *
                generalize bs b2 = S2 at *
                generalize bs b3 = S3 at *
                go_wp2_with (go_at_call 29; refine HR.out.mono ?_; rintro e1 w1 ⟨v1, rfl, hown1, hb1⟩; obtain ⟨a1, c1, hv1⟩ := hown1.form; subst hv1; have HB1 := Lib.hid hb1; have HOW1 := Lib.hid hown1; clear hb1 hown1)
                have HM1 : Hid (∃ lv tv Ls, MkA w1 B mb lv tv Ls F) := by
                  obtain ⟨x1, x2, x3, x4⟩ := hMk.out
                  exact ⟨x1, x2, x3, x4.keep HB1.out⟩
                have HK1' : Hid (KeptT [26] B w w1) := hKe.out.trans (KeptT.of_below HB1.out)
                have HO1' : Hid (OwnE w1 B (.slice a1 R.length c1) R) := HOW1.out.base hsz
                have hs1 : B ≤ w1.heap.size := Nat.le_trans hsz HB1.out.size
                clear HOW1 HB1 HR
                have IHD : Hid (∀ (wx : World) (vx lvx tvx : Value) (Lsx : List Value), MkA wx B mb lvx tvx Lsx F → OwnE wx B vx R → B ≤ wx.heap.size → Calls Try.prog 30 #[.pointer (some ⟨mb, 0, none⟩), vx] wx fun e w' => e = .returned (.int .i64 (at2 : Int)) ∧ (∃ lv tv Ls, MkA w' B mb lv tv Ls (Fs.go n R F)) ∧ KeptT [26] B wx w') := fun wx vx lvx tvx Lsx hmx hvx hbx => by
                  rw [HAT2.out]
                  exact IHC.out wx vx lvx tvx Lsx hmx hvx hbx
                clear IHC
                refine (N1.out _).mono ?_
                rintro e2 w2 ⟨rfl, hb2⟩
                have HB2 := Lib.hid hb2
                clear hb2
                go_wp2_with fail
                refine (N2.out _).mono ?_
                rintro e3 w3 ⟨rfl, hb3⟩
                have HB3 : Hid (Below w1.heap.size w1 w3) := HB2.out.trans (hb3.mono HB2.out.size)
                clear hb3
                go_wp2_with fail
                have HO3 : Hid (OwnE w3 B (.slice a1 R.length c1) R) := HO1'.out.kt (T := [26]) (KeptT.of_below HB3.out) (by decide)
                have hs3 : B ≤ w3.heap.size := Nat.le_trans hs1 HB3.out.size
                have HM3 : Hid (∃ lv tv Ls, MkA w3 B mb lv tv Ls F) := by
                  obtain ⟨x1, x2, x3, x4⟩ := HM1.out
                  exact ⟨x1, x2, x3, x4.keep HB3.out⟩
                obtain ⟨x1, x2, x3, x4⟩ := HM3.out
                have HC3 := Lib.hid (IHD.out w3 _ x1 x2 x3 x4 HO3.out hs3)
                clear x4 HM3
                refine HC3.out.mono ?_
                rintro e4 w4 ⟨rfl, hm4, hk4⟩
                have HM4 := Lib.hid hm4
                have HK4 : Hid (KeptT [26] B w w4) := (HK1'.out.trans (KeptT.of_below HB3.out)).trans hk4
                clear hm4 hk4
                go_wp2_with fail
                refine (N3.out _).mono ?_
                rintro e5 w5 ⟨rfl, hb5⟩
                have HK5 : Hid (KeptT [26] B w w5) := HK4.out.trans (KeptT.of_below hb5)
                have HM5 : Hid (∃ lv tv Ls, MkA w5 B mb lv tv Ls (Fs.fold n (Fs.waysTo l (c + 1)) M)) := by
                  obtain ⟨y1, y2, y3, y4⟩ := HM4.out
                  refine ⟨y1, y2, y3, ?_⟩
                  rw [HSN.out]
                  exact y4.keep hb5
                clear hb5
                go_wp2_with fail
                go_roundg (256 - (c + 1))
                case rel => exact ⟨c + 1, by omega, rfl, by go_num, by rw [HLN.out]; (congr 1 <;> omega), by rw [HNX.out, ← HCAT.out], HM5, HK5⟩
                case measure => omega
            · obtain rfl : c = 256 := by omega
              rw [Fs.waysTo_all] at hMk hws hbl ⊢
              obtain ⟨a1, ⟨K, a2⟩, a3, a4⟩ := Fs.fold_net HG.out.rise hd (M := M) HN.out (fun w (h : w ∈ Fs.ways l) => h)
              obtain ⟨g1, g2⟩ := Fs.go_fold HN.out HG.out.rise hd
              have hnF : l ∉ Fs.fold n (Fs.ways l) M := fun q1 => hnl.out (by rw [g2 q1] at q1; exact q1)
              rw [if_neg hnF] at g1
              have hFl := Fs.fold_length n (Fs.ways l) M (fun w hw => (Fs.good_way HG.out.rise hw).rise)
              have htw := Fs.total_ways HG.out.rise
              have hmle : M.length ≤ k := by have := HQ.out; omega
              have htx := Fs.txt_snoc a1 a3
              have hnb := Fs.nodeB_eq (Fs.fold n (Fs.ways l) M) l
              have hatL := Fs.at_last hnF
              have hws2 := Fs.ways_few l
              rw [hlast.out] at hnb
              have HGO := Lib.hid g1
              have HATL := Lib.hid hatL
              have HTX := Lib.hid htx
              generalize hF : Fs.fold n (Fs.ways l) M = F at *
              have hFk : F.length ≤ 8388608 := by omega
              obtain ⟨body, hbody⟩ : ∃ body, body = ([] : List UInt8) ++ Fs.wysB F (Fs.ways l) := ⟨_, rfl⟩
              rw [← hbody]
              have hbsz : body.length ≤ 10000 := by
                rw [hbody, List.length_append]
                have := Fs.finB_len (none)
                have e : (([] : List UInt8) : List UInt8) = Fs.finB (none) := rfl
                rw [e]
                omega
              obtain ⟨hw, hhw⟩ : ∃ hw, hw = (Fs.ways l).length := ⟨_, rfl⟩
              rw [← hhw] at hws hws2 hbl ⊢
              have HNB : Hid (Fs.nodeB F l = Pl.numB (2 * (hw : Int)) ++ body) := by
                show _ = _
                rw [hnb, hbody, hhw]
                rfl
              obtain ⟨bh, hbh⟩ : ∃ bh, bh = Pl.numB (2 * (hw : Int)) := ⟨_, rfl⟩
              have N4 : Hid (∀ wx, Calls Try.prog 31 #[.int .i64 (2 * (hw : Int))] wx fun e w' => e = .returned (.string (bs bh)) ∧ Below wx.heap.size wx w') := fun wx => by rw [hbh]; exact num_any wx (2 * (hw : Int)) (by omega) (by omega)
              have n4 := numB_length (2 * (hw : Int))
              rw [← hbh] at n4 HNB
              have HCAT : Hid (bs bh ++ bs body = bs (Fs.nodeB F l)) := by show _ = _; rw [bs_append, HNB.out]
              have p4 : ¬ 9223372036854775807 < (bs bh).size + (bs body).size := by rw [bs_size, bs_size]; omega
              clear hF a1 a2 a3 a4 g1 g2 hFl htw htx hnb hatL hbody hbsz hhw hbh n4 hws hws2 hbl hnF
              obtain ⟨lv, tv2, Ls2, hMA⟩ := hMk.out
              obtain ⟨al2, cl2, hlv2, _, _⟩ := own_form hMA.left
              subst hlv2
              obtain ⟨at3, ct3, htv2, _, _⟩ := own_form hMA.text
              subst htv2
              have hBr : B ≤ wr.heap.size := by have := hKe.out.size; omega
              have k0 : wr.cell? ⟨mb, 0, none⟩ = some (.slice al2 F.length cl2) := hMA.row.cell 0
              have HMA := Lib.hid hMA
              have HV2 := Lib.hid hv2
              obtain ⟨iL, hiL, hyL0, hyL1, hyL2⟩ := info_parts Try.infoL
              obtain ⟨iS, hiS, hyS0, hyS1, hyS2⟩ := info_parts Try.infoS
              have HLT : Hid (∀ g c w3, w3.ownsRow B 22 1 (.slice (some ⟨g, 0, none⟩) (F.length + 1) c) (F.length + 1) (Ls2 ++ [.slice (some ⟨gv, 0, none⟩) l.length cv]) → Grew wr w3 (.slice al2 F.length cl2) (.slice (some ⟨g, 0, none⟩) (F.length + 1) c) → _) := fun g c w3 h3 h4 => MkA.left_to (l := l) hMA hv2 h3 h4
              have HMB : Hid (∀ v' w3, Grew wr w3 (.slice al2 F.length cl2) v' → w3.cell? ⟨mb, 0, none⟩ = some (.slice al2 F.length cl2) ∧ w3.frozen? ⟨mb, 0, none⟩ = false) := fun v' w3 h => by
                have hr3 : RowT 67 w3 mb _ := hMA.row.keep (h.far hMA.row.lt (fun e => by obtain ⟨_, _, cc, ff, hh⟩ := own_kind hMA.left mb e; have := kind_inj hh hMA.row; revert this; decide))
                exact ⟨hr3.cell 0, hr3.frozen 0⟩
              clear hMA hv2
              go_wp2_with (at_builtin; go_loud ((refine wpList_pushR rfl _ _ 65 22 rfl iL _ 1 24 Try.underlying65 hiL hyL0 hyL1 hyL2 rfl (by decide) B hBr (.slice al2 F.length cl2) F.length Ls2 rfl HMA.out.left [.slice (some ⟨gv, 0, none⟩) l.length cv] rfl (one_of rfl) rfl (by omega) (by omega) ?_; intro g5 cap5 w5 hown5 hgr5; obtain ⟨m0, f0⟩ := HMB.out _ _ hgr5; have HL5 := Lib.hid (HLT.out _ _ _ hown5 hgr5); clear hown5 hgr5)))
              go_wp2_with fail
              have hK6 : Hid (KeptT [26] B w (w5.setCell ⟨mb, 0, none⟩ (.slice (some ⟨g5, 0, none⟩) (F.length + 1) cap5))) := hKe.out.trans HL5.out.2.2.2.2
              have HR6 := Lib.hid (And.intro HL5.out.1 (And.intro HL5.out.2.1 (And.intro HL5.out.2.2.1 HL5.out.2.2.2.1)))
              clear HL5 m0 f0 HLT HMB HMA
              generalize w5.setCell ⟨mb, 0, none⟩ (.slice (some ⟨g5, 0, none⟩) (F.length + 1) cap5) = w6 at *
              have hs6 : B ≤ w6.heap.size := by have := hK6.out.size; omega
              have e1 : w6.drew.cell? ⟨mb, 1, none⟩ = some (.slice at3 F.length ct3) := HR6.out.1.cell 1
              have HX7 : Hid (∀ w7, Below w6.drew.heap.size w6.drew w7 → RowT 67 w7 mb #[.slice (some ⟨g5, 0, none⟩) (F.length + 1) cap5, .slice at3 F.length ct3] ∧ w7.ownsRow B 22 1 (.slice (some ⟨g5, 0, none⟩) (F.length + 1) cap5) (F ++ [l]).length (Ls2 ++ [.slice (some ⟨gv, 0, none⟩) l.length cv]) ∧ (∀ i (hi : i < (F ++ [l]).length), ∃ v', (Ls2 ++ [.slice (some ⟨gv, 0, none⟩) l.length cv])[i]? = some v' ∧ OwnE w7 B v' (F ++ [l])[i]) ∧ w7.ownsRow B 9 1 (.slice at3 F.length ct3) F.length (strV (Fs.txt F)) ∧ w7.cell? ⟨mb, 1, none⟩ = some (.slice at3 F.length ct3) ∧ B ≤ w7.heap.size) := fun w7 hb7 => by
                obtain ⟨y1, y2, y3, y4⟩ := HR6.out
                have hb8 : Below w6.heap.size w6 w7 := (Below.refl _ _).drew.trans hb7
                have hr7 : RowT 67 w7 mb _ := y1.keep (hb8.block _ y1.lt)
                refine ⟨hr7, ?_, fun i hi => ?_, ownsRow_keep y4 fun k hk => hb8.block k (own_kind y4 k hk).2.1, hr7.cell 1, Nat.le_trans hs6 hb8.size⟩
                · have := ownsRow_keep y2 fun k hk => hb8.block k (own_kind y2 k hk).2.1
                  simpa using this
                · obtain ⟨v', z1, z2⟩ := y3 i hi
                  exact ⟨v', z1, ownsRow_keep z2 fun k hk => hb8.block k (own_kind z2 k hk).2.1⟩
              have HFIN : Hid (∀ w7 g8 cap8 w8, Below w6.drew.heap.size w6.drew w7 → w8.ownsRow B 9 1 (.slice (some ⟨g8, 0, none⟩) (F.length + 1) cap8) (F.length + 1) (strV (Fs.txt F) ++ [.string (bs bh ++ bs body)]) → Grew w7 w8 (.slice at3 F.length ct3) (.slice (some ⟨g8, 0, none⟩) (F.length + 1) cap8) → (w8.cell? ⟨mb, 1, none⟩ = some (.slice at3 F.length ct3) ∧ w8.frozen? ⟨mb, 1, none⟩ = false) ∧ MkA (w8.setCell ⟨mb, 1, none⟩ (.slice (some ⟨g8, 0, none⟩) (F.length + 1) cap8)) B mb (.slice (some ⟨g5, 0, none⟩) (F.length + 1) cap5) (.slice (some ⟨g8, 0, none⟩) (F.length + 1) cap8) (Ls2 ++ [.slice (some ⟨gv, 0, none⟩) l.length cv]) (F ++ [l]) ∧ KeptT [26] B w (w8.setCell ⟨mb, 1, none⟩ (.slice (some ⟨g8, 0, none⟩) (F.length + 1) cap8))) := fun w7 g8 cap8 w8 hb7 h8 hg8 => by
                obtain ⟨y1, y2, y3, y4, _, _⟩ := HX7.out w7 hb7
                rw [HCAT.out] at h8
                obtain ⟨z1, z2⟩ := text_to y1 HA0.out.base y2 y3 y4 (S := Fs.txt F) (t := Fs.nodeB F l) (N := F ++ [l]) HTX.out.symm (by simp) h8 hg8
                have hr8 : RowT 67 w8 mb _ := y1.keep (hg8.far y1.lt (fun e => by obtain ⟨_, _, cc, ff, hh⟩ := own_kind y4 mb e; have := kind_inj hh y1; revert this; decide))
                exact ⟨⟨hr8.cell 1, hr8.frozen 1⟩, z1, (hK6.out.trans (KeptT.of_below ((Below.refl _ _).drew.trans hb7))).trans z2⟩
              have HAB := HA0.out.base
              clear HCAT
              generalize bs bh = SH at *
              generalize bs body = SB at *
              go_region_law ((first | (refine step_pushR (w := w7) rfl _ _ 40 9 (by rfl) iS _ 1 16 Try.underlying40 hiS hyS0 hyS1 hyS2 rfl (by decide) B (HX7.out w7 HB7.out).2.2.2.2.2 (.slice at3 F.length ct3) F.length (strV (Fs.txt F)) (by rfl) (HX7.out w7 HB7.out).2.2.2.1 ((Below.refl _ _).alloc (Nat.le_refl _) _) [.string (SH ++ SB)] rfl (one_of rfl) ⟨w7.heap.size, 0, none⟩ (new_cells w7 _ _) (by rfl) (by omega) (by omega) ?_; intro g8 cap8 w8 hown8 hgr8; obtain ⟨⟨m8, f8⟩, hq8⟩ := HFIN.out w7 g8 cap8 w8 HB7.out hown8 hgr8; have HQ8 := Lib.hid hq8; clear hown8 hgr8 hq8) | (go_simp; go_wp2_with (go_at_call 31; refine (N4.out _).mono ?_; rintro e7 w7 ⟨rfl, hb7⟩; have x7 := (HX7.out w7 hb7).2.2.2.2.1; have x8 : (w7.alloc (.cells #[.string (SH ++ SB)] 9)).cell? ⟨mb, 1, none⟩ = some (.slice at3 F.length ct3) := (((Below.refl w7.heap.size w7).alloc (Nat.le_refl _) _).cell (p := ⟨mb, 1, none⟩) (HX7.out w7 hb7).1.lt).trans x7; have HB7 := Lib.hid hb7; clear hb7))))
              all_goals
                have HQ9 := Lib.hid HQ8.out.1
                have HK9 := Lib.hid HQ8.out.2
                have c9 : (w8.setCell ⟨mb, 1, none⟩ (.slice (some ⟨g8, 0, none⟩) (F.length + 1) cap8)).cell? ⟨mb, 0, none⟩ = some (.slice (some ⟨g5, 0, none⟩) (F.length + 1) cap5) := HQ9.out.row.cell 0
                clear HQ8 m8 f8
                generalize w8.setCell ⟨mb, 1, none⟩ (.slice (some ⟨g8, 0, none⟩) (F.length + 1) cap8) = w9 at *
                go_wp2_with fail
                go_ret
                refine ⟨?_, ?_, HK9.out⟩
                · rw [HGO.out, HATL.out]
                  exact ret_int (by omega)
                · rw [HGO.out]
                  exact ⟨_, _, _, HQ9.out⟩
end Go.Proofs.Ytdjiknakbldggaa

/-
  What the document builds of a list.
-/
namespace Go.Proofs.Ytdjiknakbldggaa
open Go.RowKit

namespace Fs
theorem txt_len (M : List (List En)) : ∀ t ∈ txt M, t.length ≤ 6930 := fun t ht => by
  obtain ⟨l, _, rfl⟩ := List.mem_map.1 ht
  exact bytesN_length (by show (List.map _ (ways l)).length ≤ 256; rw [List.length_map]; exact ways_few l)
theorem flat_len : ∀ (S : List (List UInt8)), (∀ t ∈ S, t.length ≤ 6930) → (S.flatMap id).length ≤ 6930 * S.length
  | [], _ => Nat.le_refl _
  | t :: S, h => by
    have h1 := flat_len S fun x hx => h x (List.mem_cons_of_mem _ hx)
    have h2 := h t (by simp)
    rw [List.flatMap_cons, List.length_append, List.length_cons]
    have e : (id t).length = t.length := rfl
    omega
theorem bytes_nil : bytes [] = Pl.numB 0 ++ Pl.numB 0 := by
  have h : nodes [] = [] := if_pos rfl
  unfold bytes
  rw [h]
  show Pl.numB 0 ++ (Pl.numB 0 ++ []) = _
  rw [List.append_nil]
theorem built_no {l : List En} (h : right l ≠ 0) : built l = [] := if_neg h
theorem built_yes {l : List En} (h : right l = 0) : built l = bytes l := if_pos h
end Fs
theorem MkA.texts {w : World} {B mb : Nat} {lv tv : Value} {Ls : List Value} {M : List (List Fs.En)} (h : MkA w B mb lv tv Ls M) : ∃ a cap, tv = .slice a M.length cap ∧ M.length ≤ cap ∧ (0 < M.length → ∃ g, a = some ⟨g, 0, none⟩ ∧ ∀ i (hi : i < (Fs.txt M).length), w.cell? ⟨g, i, none⟩ = some (.string (bs (Fs.txt M)[i]))) := by
  rcases h.text.2 with ⟨rfl, h0⟩ | ⟨g, cap, cur, rfl, hg, hh, hnc, hcp, hcs, htake⟩
  · exact ⟨none, 0, by rw [h0], by omega, fun h => by omega⟩
  · have hown := h.text
    refine ⟨_, cap, rfl, hnc, fun _ => ⟨g, rfl, fun i hi => ?_⟩⟩
    have := hown.cells (g := g) rfl i (.string (bs (Fs.txt M)[i])) (by simp [strV, hi])
    rwa [Addr.add_lit, Nat.zero_add] at this
theorem mkA_made (w : World) (B : Nat) (hB : B ≤ w.heap.size) : MkA (w.alloc (.cells #[.slice none 0 0, .slice none 0 0] 67)) B w.heap.size (.slice none 0 0) (.slice none 0 0) [] [] :=
  ⟨Go.Deep.blk_alloc_new _ _, hB, World.ownsRow_nil _ _ _ _, fun i hi => by simp at hi, World.ownsRow_nil _ _ _ _⟩
theorem ret_sI {s : ByteArray} {a b : Int} (h : a = b) : Ending.returned (.tuple #[.string s, .int .i64 a]) = .returned (.tuple #[.string s, .int .i64 b]) := by rw [h]
/-- What Build answers. -/
def BuildPost (w : World) (l : List Fs.En) (e : Ending) (w' : World) : Prop := e = .returned (.tuple #[.string (bs (Fs.built l)), .int .i64 (Fs.right l)]) ∧ Below w.heap.size w w'

set_option maxRecDepth 100000 in
set_option maxHeartbeats 16000000 in
theorem buildR_any (w : World) (v : Value) (l : List Fs.En) (h : EnS w v l) (hmx : ∀ e ∈ l, e.2 ≤ 9223372036854775807) :
    Calls Try.prog 11 #[v] w (BuildPost w l) := by
  have hr := right_any w v l h
  have HS := Lib.hid h
  unfold BuildPost
  obtain ⟨a, cap, rfl, hx, hx', hu⟩ := h
  clear hu
  obtain ⟨n0, hn0⟩ : ∃ n0, n0 = l.length := ⟨_, rfl⟩
  rw [← hn0] at hx hr ⊢
  by_cases he : Fs.right l = 0
  · have hf := Fs.right_ok he
    have hb := Fs.built_yes he
    have HB := Lib.hid hb
    have HE := Lib.hid he
    rw [he] at hr
    have HR := Lib.hid hr
    have hn := Fs.nodes_mx hf
    have htot := Fs.fine_total hf
    have hfew := hf.few
    have hLw := Fs.fine_lw hf hmx
    have hbd := Fs.least_bd hLw
    unfold Fs.mx at hbd
    have HF := Lib.hid hf
    have HLW := Lib.hid hLw
    clear hb he hr hf hmx hLw
    rcases Nat.eq_zero_or_pos n0 with h0 | h0
    · obtain rfl : l = [] := List.length_eq_zero_iff.1 (by omega)
      subst h0
      clear hn0
      go_enter Try.func11, Try.ntmps11
      go_wp2_with (go_at_call 16; refine HR.out.mono ?_; rintro e1 w1 ⟨rfl, hb1⟩; have HB1 := Lib.hid hb1; clear hb1)
      have HM : Hid (MkA (w1.alloc (.cells #[.slice none 0 0, .slice none 0 0] 67)) w.heap.size w1.heap.size (.slice none 0 0) (.slice none 0 0) [] (Fs.nodes [])) := mkA_made w1 _ HB1.out.size
      have HBW : Hid (Below w.heap.size w (w1.alloc (.cells #[.slice none 0 0, .slice none 0 0] 67))) := HB1.out.alloc HB1.out.size _
      have HLE : Hid ((0 : Int) = Fs.least []) := rfl
      have N1 := Lib.hid (fun wx => num_any wx 0 (by omega) (by omega))
      have p1 : ¬ 9223372036854775807 < (bs (Pl.numB 0)).size + (bs (Pl.numB 0)).size := by rw [bs_size]; have := numB_length 0; omega
      have HFIN : Hid (bs (Pl.numB 0) ++ bs (Pl.numB 0) = bs (Fs.built [])) := by
        show _ = _
        rw [HB.out, bs_append, Fs.bytes_nil]
      clear HM HLE
      go_wp2_with fail
      refine (N1.out _).mono ?_
      rintro e5 w5 ⟨rfl, hb5⟩
      have HB5 := Lib.hid hb5
      clear hb5
      go_wp2_with fail
      refine (N1.out _).mono ?_
      rintro e6 w6 ⟨rfl, hb6⟩
      have HB6 : Hid (Below (w1.alloc (.cells #[.slice none 0 0, .slice none 0 0] 67)).heap.size (w1.alloc (.cells #[.slice none 0 0, .slice none 0 0] 67)) w6) := HB5.out.trans (hb6.mono HB5.out.size)
      clear hb6 HB5
      have HBW6 : Hid (Below w.heap.size w w6) := HBW.out.trans (HB6.out.mono HBW.out.size)
      have g6 : w6.cell? ⟨w1.heap.size, 1, none⟩ = some (.slice none 0 0) := ((mkA_made w1 w.heap.size HB1.out.size).keep HB6.out).row.cell 1
      clear HB6 HBW
      generalize bs (Pl.numB 0) = S0 at *
      go_wp2_with fail
      refine wp_loop_rounds 1 ?_
      rw [rounds_succ]
      go_wp2_with fail
      go_ret2
      exact ⟨by rw [HE.out, ← HFIN.out]; rfl, HBW6.out⟩
    · have h0' : ¬ (n0 : Int) = 0 := by omega
      have i0 : (0 : Int) < (n0 : Int) := by omega
      have hne : l ≠ [] := List.length_pos_iff.1 (by omega)
      have HNE := Lib.hid hne
      obtain ⟨m, hm⟩ : ∃ m, m = Fs.least l := ⟨_, rfl⟩
      have HLE := Lib.hid hm
      rw [← hm] at hbd
      rw [← hn0] at hfew
      have HN0 := Lib.hid hn0
      have HV0 : Hid (∀ wx, Below w.heap.size w wx → Calls Try.prog 29 #[.slice a n0 cap, .int .i64 (-1)] wx fun e w' => ∃ v, e = .returned (.tuple #[v, .int .i64 m]) ∧ OwnE w' wx.heap.size v (Fs.low l) ∧ Below wx.heap.size wx w') := fun wx hb => by
        have h1 := rests_any wx _ l (-1) (HS.out.below hb (Nat.le_refl _)) (by omega) (by omega) HLW.out
        rw [sel_all (by omega)] at h1
        unfold RestPost at h1
        rw [← hm] at h1
        rw [hn0]
        exact h1
      clear hm hne hn0
      go_enter Try.func11, Try.ntmps11
      go_wp2_with (go_at_call 16; go_loud ((refine HR.out.mono ?_; rintro e1 w1 ⟨rfl, hb1⟩; have HB1 := Lib.hid hb1; clear hb1)))
      have HMA1 : Hid (MkA (w1.alloc (.cells #[.slice none 0 0, .slice none 0 0] 67)) w.heap.size w1.heap.size (.slice none 0 0) (.slice none 0 0) [] []) := mkA_made w1 _ HB1.out.size
      have hbw1 : Below w.heap.size w (w1.alloc (.cells #[.slice none 0 0, .slice none 0 0] 67)) := HB1.out.alloc HB1.out.size _
      have HRE := Lib.hid (HV0.out _ hbw1)
      have HBW1 := Lib.hid hbw1
      obtain ⟨N, hNN⟩ : ∃ N, N = Fs.nodes l := ⟨_, rfl⟩
      rw [← hNN] at hn
      have HND : Hid (∀ wx vx lvx tvx Lsx, MkA wx w.heap.size w1.heap.size lvx tvx Lsx [] → OwnE wx w.heap.size vx (Fs.low l) → w.heap.size ≤ wx.heap.size → Calls Try.prog 30 #[.pointer (some ⟨w1.heap.size, 0, none⟩), vx] wx (NodePost wx w.heap.size w1.heap.size N (Fs.low l))) := fun wx vx lvx tvx Lsx h1 h2 h3 => by
        have h4 := node_any (Fs.deep l + 1) (Fs.low l) [] wx w.heap.size w1.heap.size vx lvx tvx Lsx h1 h2 h3 (Fs.good_low HNE.out HF.out.rise) (Fs.low_lw HLW.out) (by rw [Fs.deep_low]; omega) (by rw [Fs.low_length]; have := HN0.out; omega) Fs.net_nil (fun _ q => by cases q) (by
          have e : Fs.total (Fs.low l) = Fs.total l := by
            unfold Fs.total Fs.low
            rw [List.map_map]
            rfl
          rw [e]
          show 0 + 1 + Fs.total l ≤ _
          omega)
        have e : Fs.nodes l = Fs.go (Fs.deep l + 1) (Fs.low l) [] := by unfold Fs.nodes; rw [if_neg HNE.out]
        rw [hNN, e]
        exact h4
      have HNN := Lib.hid hNN
      clear hbw1 HV0 hNN
      go_wp2_with (first | (go_at_call 29; go_loud ((refine HRE.out.mono ?_; rintro e2 w2 ⟨v2, rfl, ho2, hb2⟩; obtain ⟨a2, c2, hv2⟩ := ho2.form; subst hv2; have HB2 : Hid (Below w.heap.size w w2) := HBW1.out.trans (hb2.mono HBW1.out.size); have HM2 := Lib.hid (HMA1.out.keep hb2); have HO2 : Hid (OwnE w2 w.heap.size _ (Fs.low l)) := ho2.base HBW1.out.size; clear ho2 hb2))) | (go_at_call 30; go_loud ((refine (HND.out w2 _ _ _ _ HM2.out HO2.out HB2.out.size).mono ?_; rintro e3 w3 ⟨rfl, hm3, hk3⟩; obtain ⟨lv3, tv3, Ls3, hm3⟩ := hm3; obtain ⟨at3, ct3, htv, _, _⟩ := hm3.texts; subst htv; have g1 := hm3.row.cell 1; have HM := Lib.hid hm3; have HBW : Hid (Below w.heap.size w w3) := hk3.below HB2.out HB2.out.size; clear hm3 hk3))))
      have htl := Fs.txt_len N
      have HTL := Lib.hid htl
      have hntl := Fs.txt_length N
      have n1 := numB_length (N.length : Int)
      have n2 := numB_length m
      obtain ⟨b1, hB1⟩ : ∃ b1, b1 = Pl.numB (N.length : Int) := ⟨_, rfl⟩
      obtain ⟨b2, hB2⟩ : ∃ b2, b2 = Pl.numB m := ⟨_, rfl⟩
      have N1 : Hid (∀ wx, Calls Try.prog 31 #[.int .i64 (N.length : Int)] wx fun e w' => e = .returned (.string (bs b1)) ∧ Below wx.heap.size wx w') := fun wx => by rw [hB1]; exact num_any wx (N.length : Int) (by omega) (by omega)
      have N2 : Hid (∀ wx, Calls Try.prog 31 #[.int .i64 m] wx fun e w' => e = .returned (.string (bs b2)) ∧ Below wx.heap.size wx w') := fun wx => by rw [hB2]; exact num_any wx m (by omega) (by omega)
      have HBY : Hid (Fs.bytes l = b1 ++ (b2 ++ (Fs.txt N).flatMap id)) := by
        show _ = _
        unfold Fs.bytes
        rw [hB1, hB2, HNN.out, ← HLE.out]
      rw [← hB1] at n1
      rw [← hB2] at n2
      have z1 := bs_size b1
      have z2 := bs_size b2
      have p1 : ¬ 9223372036854775807 < (bs b1).size + (bs b2).size := by omega
      have hcat0 := bs_append b1 b2
      clear hB1 hB2 htl
      refine (N1.out _).mono ?_
      rintro e5 w5 ⟨rfl, hb5⟩
      have HB5 := Lib.hid hb5
      clear hb5
      go_wp2_with fail
      refine (N2.out _).mono ?_
      rintro e6 w6 ⟨rfl, hb6⟩
      have HB6 : Hid (Below w3.heap.size w3 w6) := HB5.out.trans (hb6.mono HB5.out.size)
      clear hb6 HB5
      have HBW6 : Hid (Below w.heap.size w w6) := HBW.out.trans (HB6.out.mono HBW.out.size)
      have HM6 := Lib.hid (HM.out.keep HB6.out)
      have HTC6 : Hid (0 < N.length → ∃ g, at3 = some ⟨g, 0, none⟩ ∧ ∀ i (hi : i < (Fs.txt N).length), w6.cell? ⟨g, i, none⟩ = some (.string (bs (Fs.txt N)[i]))) := fun h => by
        obtain ⟨a9, c9, h9, _, h10⟩ := HM6.out.texts
        simp only [Value.slice.injEq, true_and] at h9
        obtain ⟨rfl, rfl⟩ := h9
        exact h10 h
      have g6 : w6.cell? ⟨w1.heap.size, 1, none⟩ = some (.slice at3 N.length ct3) := HM6.out.row.cell 1
      clear g1 HM HM6 HB6
      obtain ⟨q, hq⟩ : ∃ q, q = N.length := ⟨_, rfl⟩
      rw [← hq] at g6 hn HTC6 hntl
      clear hq
      generalize w1.heap.size = mb at *
      go_wp2_with fail
      go_loopg [9, 10] q (fun gg sv i wx => ∃ k : Nat, k ≤ q ∧ gg = q - k ∧ i = .int .i64 k ∧ sv = .string (bs (b1 ++ b2 ++ ((Fs.txt N).take k).flatMap id)) ∧ wx = w6)
      case atStart => exact ⟨0, Nat.zero_le _, rfl, rfl, by simp, rfl⟩
      case round =>
        obtain ⟨k, hk, rfl, rfl, rfl, rfl⟩ := hrel
        by_cases hkq : k < q
        · have i1 : (k : Int) < (q : Int) := by omega
          have kx : k < (Fs.txt N).length := by omega
          obtain ⟨g, rfl, hcell⟩ := HTC6.out (by omega)
          have c1 := hcell k kx
          have hlen := HTL.out _ (List.getElem_mem kx)
          have hst : (Fs.txt N).take (k + 1) = (Fs.txt N).take k ++ [(Fs.txt N)[k]] := List.take_succ_eq_append_getElem kx
          have hfl := Fs.flat_len ((Fs.txt N).take k) (fun t ht => HTL.out t (List.mem_of_mem_take ht))
          rw [List.length_take] at hfl
          have HCAT : Hid (bs (b1 ++ b2 ++ ((Fs.txt N).take k).flatMap id) ++ bs (Fs.txt N)[k] = bs (b1 ++ b2 ++ ((Fs.txt N).take (k + 1)).flatMap id)) := by
            show _ = _
            rw [bs_append, hst, List.flatMap_append]
            simp
          have z3 := bs_size (b1 ++ b2 ++ ((Fs.txt N).take k).flatMap id)
          have z4 := bs_size (Fs.txt N)[k]
          rw [List.length_append, List.length_append] at z3
          have p2 : ¬ 9223372036854775807 < (bs (b1 ++ b2 ++ ((Fs.txt N).take k).flatMap id)).size + (bs (Fs.txt N)[k]).size := by omega
          clear hcell hlen hst hfl z1 z2 z3 z4 p1
          generalize bs (b1 ++ b2 ++ ((Fs.txt N).take k).flatMap id) = S3 at *
          generalize bs (Fs.txt N)[k] = S4 at *
          go_wp2_with fail
          go_roundg (q - (k + 1))
          case rel => exact ⟨k + 1, by omega, rfl, by go_num, by rw [HCAT.out], rfl⟩
          case measure => omega
        · obtain rfl : k = q := by omega
          have hall : (Fs.txt N).take k = Fs.txt N := List.take_of_length_le (by omega)
          have HFIN : Hid (b1 ++ b2 ++ ((Fs.txt N).take k).flatMap id = Fs.built l) := by
            show _ = _
            rw [HB.out, HBY.out, hall, List.append_assoc]
          rw [HFIN.out]
          clear hall HFIN
          go_wp2_with fail
          go_ret2
          exact ⟨by rw [HE.out]; rfl, HBW6.out⟩
  · have hb := Fs.built_no he
    have HB := Lib.hid hb
    have hne : (Fs.right l == 0) = false := by rw [beq_eq_false_iff_ne]; exact he
    have HR := Lib.hid hr
    clear hb he hr HS hn0
    generalize Fs.right l = r at *
    go_enter Try.func11, Try.ntmps11
    go_wp2_with (go_at_call 16; refine HR.out.mono ?_; rintro e1 w1 ⟨rfl, hb1⟩; have HB1 := Lib.hid hb1; clear hb1)
    go_ret2
    exact ⟨by rw [HB.out]; rfl, HB1.out⟩
end Go.Proofs.Ytdjiknakbldggaa

/-
  The program's nodes: groups of terms, what is met, the state of the walk.
-/
namespace Go.Proofs.Ytdjiknakbldggaa
open Go.RowKit Go.Maps

namespace Fs
theorem hd_tail {c : UInt8} {e : En} (h : hd c e = true) : e.1 = c :: e.1.tail := by
  obtain ⟨t, ht⟩ := hd_iff.1 h
  rw [ht]
  rfl
/-- A group of terms, and what is behind it. -/
structure Group (k : Nat) (c : UInt8) (R : List En) (size : Nat) : Prop where
  pos : 0 < size
  le : size ≤ R.length
  cut : cut (k + 1) (R.take size) = behind (Fs.cut k R) c
  len : ∀ e ∈ R.take size, k + 1 ≤ e.1.length
  ways : Fs.ways (Fs.cut k R) = (c, Fs.least (behind (Fs.cut k R) c), low (behind (Fs.cut k R) c)) :: Fs.ways (Fs.cut k (R.drop size))
  least : R.drop size = [] → Fs.least (Fs.cut k R) = Fs.least (behind (Fs.cut k R) c)
  more : R.drop size ≠ [] → Fs.least (Fs.cut k R) = min (Fs.least (behind (Fs.cut k R) c)) (Fs.least (Fs.cut k (R.drop size)))
  rise : Rise (Fs.cut k (R.drop size))
theorem cut_cut (k : Nat) (l : List En) : cut (k + 1) l = (cut k l).map fun e => (e.1.tail, e.2) := by
  unfold cut
  rw [List.map_map]
  exact List.map_congr_left fun e _ => by show (e.1.drop (k + 1), e.2) = ((e.1.drop k).tail, e.2); rw [List.tail_drop]
theorem group {k : Nat} {c : UInt8} {R : List En} (hr : Rise (cut k R)) (h0 : 0 < R.length) (hl : ∀ e ∈ R, k < e.1.length) (hc : ∀ h : k < R[0].1.length, R[0].1[k] = c) : Group k c R (grp c (cut k R)).length := by
  obtain ⟨e0, R', rfl⟩ : ∃ e R', R = e :: R' := by
    cases R with
    | nil => simp at h0
    | cons e R' => exact ⟨e, R', rfl⟩
  have hk0 : k < e0.1.length := hl e0 (by simp)
  have hc0 : e0.1[k] = c := hc hk0
  have hcut : cut k (e0 :: R') = (c :: e0.1.drop (k + 1), e0.2) :: cut k R' := by
    show (e0.1.drop k, e0.2) :: cut k R' = _
    rw [List.drop_eq_getElem_cons hk0, hc0]
  have hfirst := rise_first (l := cut k R') (c := c) (t := e0.1.drop (k + 1)) (o := e0.2) (by rw [← hcut]; exact hr)
  have hways := ways_cons (l := cut k R') (c := c) (t := e0.1.drop (k + 1)) (o := e0.2) (by rw [← hcut]; exact hr)
  rw [← hcut] at hfirst hways
  obtain ⟨R, hR⟩ : ∃ R, R = e0 :: R' := ⟨_, rfl⟩
  clear hc
  rw [← hR] at hfirst hways hr h0 hl hcut ⊢
  have hgl : (grp c (cut k R)).length ≤ R.length := by
    have := (List.takeWhile_sublist (l := cut k R) (hd c)).length_le
    rw [cut_length] at this
    exact this
  have htake : cut k (R.take (grp c (cut k R)).length) = grp c (cut k R) := by
    have h := congrArg (List.take (grp c (cut k R)).length) (grp_rst c (cut k R))
    rw [List.take_left] at h
    rw [cut_take]
    exact h.symm
  have hdrop : cut k (R.drop (grp c (cut k R)).length) = rst c (cut k R) := by
    have h := congrArg (List.drop (grp c (cut k R)).length) (grp_rst c (cut k R))
    rw [List.drop_left] at h
    rw [cut_drop]
    exact h.symm
  have hpos : 0 < (grp c (cut k R)).length := by
    rw [hcut]
    unfold grp
    rw [List.takeWhile_cons, if_pos (by simp [hd])]
    simp
  have hbg := behind_grp hr hfirst
  have hb : cut (k + 1) (R.take (grp c (cut k R)).length) = behind (cut k R) c := by rw [cut_cut, htake, hbg]
  have hls : Fs.least (behind (cut k R) c) = Fs.least (grp c (cut k R)) := by rw [hbg]; exact least_map _ _
  refine ⟨hpos, hgl, hb, fun e he => ?_, by rw [hdrop]; exact hways, fun h => ?_, fun h => ?_, by rw [hdrop]; exact rise_rst hr⟩
  · have := hl e (List.mem_of_mem_take he)
    omega
  · have h1 : rst c (cut k R) = [] := by rw [← hdrop, h]; rfl
    rw [hls]
    conv => lhs; rw [← grp_rst c (cut k R), h1, List.append_nil]
  · have h1 : rst c (cut k R) ≠ [] := by
      rw [← hdrop]
      intro q
      exact h (List.map_eq_nil_iff.1 q)
    rw [hls, hdrop]
    conv => lhs; rw [← grp_rst c (cut k R)]
    exact least_append _ _ (fun q => by rw [q] at hpos; simp at hpos) h1
/-- Ways as the program holds them. -/
def wys (M : List (List En)) (ws : List (UInt8 × Int × List En)) : List Wy := ws.map fun w => (w.1, w.2.1, at_ M w.2.2)
theorem wys_same {M K : List (List En)} {ws : List (UInt8 × Int × List En)} (h : ∀ w ∈ ws, w.2.2 ∈ M) : wys (M ++ K) ws = wys M ws :=
  List.map_congr_left fun w hw => by rw [at_append (h w hw)]
theorem wys_snoc (M : List (List En)) (ws : List (UInt8 × Int × List En)) (w : UInt8 × Int × List En) : wys M (ws ++ [w]) = wys M ws ++ [(w.1, w.2.1, at_ M w.2.2)] := by simp [wys]
/-- What the node of the lowered terms is. -/
theorem node_low (M : List (List En)) (l : List En) : node M (low l) = lessN (last l) (wys M (ways l)) (least l) := by
  unfold node lessN wys
  rw [low_add_eq, last_add, ways_add, List.map_map, List.map_map]
  congr 1
/-- Where a node's bytes stand. -/
def place (M : List (List En)) (t : List UInt8) : Option Nat := if t ∈ txt M then some ((txt M).findIdx (· == t)) else none
theorem place_node {M : List (List En)} (h : Net M) (hM : (M.length : Int) ≤ mx) (hlw : ∀ k ∈ M, Lw k) {l : List En} (hl : Rise l) (hlwl : Lw l) (hw : ∀ w ∈ ways l, w.2.2 ∈ M) : place M (nodeB M l) = if l ∈ M then some (at_ M l) else none := by
  unfold place
  by_cases hm : l ∈ M
  · rw [if_pos hm, if_pos ((mem_txt h hM hlw hl hlwl hw).2 hm)]
    congr 1
    have hi := at_lt hm
    have hg := at_get hm
    have hlt : at_ M l < (txt M).length := by rw [txt_length]; exact hi
    rw [List.findIdx_eq hlt]
    refine ⟨by simp [txt, hg], fun j hj => ?_⟩
    have hjl : j < M.length := by omega
    simp only [txt, List.getElem_map, beq_eq_false_iff_ne]
    intro e
    have e2 := txt_inj h hM hlw hl hlwl hw (List.getElem_mem hjl) e
    have e3 := at_of h.nodup hjl
    rw [e2] at e3
    omega
  · rw [if_neg hm, if_neg (fun q => hm ((mem_txt h hM hlw hl hlwl hw).1 q))]
theorem place_snoc {M : List (List En)} (h : Net M) {l : List En} (hw : ∀ w ∈ ways l, w.2.2 ∈ M) (hn : nodeB M l ∉ txt M) (t : List UInt8) : place (M ++ [l]) t = if t = nodeB M l then some M.length else place M t := by
  unfold place
  rw [txt_snoc h hw]
  by_cases e : t = nodeB M l
  · subst e
    rw [if_pos rfl, if_pos (by simp), List.findIdx_append]
    congr 1
    rw [if_neg]
    · simp [txt_length]
    · intro q
      have h1 := List.findIdx_getElem (p := (· == nodeB M l)) (xs := txt M) (w := q)
      have h2 := eq_of_beq h1
      exact hn (h2 ▸ List.getElem_mem q)
  · rw [if_neg e]
    by_cases hm : t ∈ txt M
    · rw [if_pos hm, if_pos (List.mem_append_left _ hm), List.findIdx_append, if_pos (List.findIdx_lt_length_of_exists ⟨t, hm, by simp⟩)]
    · rw [if_neg hm, if_neg]
      intro q
      rcases List.mem_append.1 q with q | q
      · exact hm q
      · exact e (List.mem_singleton.1 q)
end Fs

/-- What stands in the map: where each text stands. -/
def plcF (M : List (List Fs.En)) : Lit → Option Value
  | .string s => (Fs.place M s).map fun (i : Nat) => .int .i64 (i : Int)
  | _ => none
theorem lawS : Keyed Try.prog 9 := string_keyed Try.underlying9
theorem zeroI (w : World) : (zeroValue 3).run Try.prog w = .ok (.int .i64 0) w := by kernel_rfl
theorem keyS_of (t : List UInt8) (h : t.length ≤ maxLen) : keyOf Try.prog 9 (.string (bs t)) = some (.string t) := by
  have h1 := Go.WideMaps.keyOf_string_mk (P := Try.prog) Try.underlying9 (s := bs t) (by rw [bs_size]; exact h)
  rw [h1]
  rw [bs_data]
theorem MapG.kt {k : TypeId} {w w' : World} {b n : Nat} {F : Lit → Option Value} (h : MapG k w b n F) (e : w'.heap[b]? = w.heap[b]?) : MapG k w' b n F := h.keep e
theorem MapG.kindT {k : TypeId} {w : World} {b n : Nat} {F : Lit → Option Value} (h : MapG k w b n F) : ∀ (c : Array Value) (t : TypeId) (fz : Nat × Nat), w.heap[b]? ≠ some (Obj.cells c t fz) := by
  obtain ⟨D, ⟨es, clock, hb, _⟩, _⟩ := h
  intro c t fz e
  rw [hb] at e
  cases e
/-- The state of the walk. -/
structure PkA (w : World) (B tb pb mb wb : Nat) (tv : Value) (M : List (List Fs.En)) : Prop where
  tbox : RowT 40 w tb #[tv]
  pbox : RowT 84 w pb #[.map (some mb)]
  wbox : RowT 85 w wb #[.func (.func 41) #[] #[.pointer (some ⟨wb, 0, none⟩), .pointer (some ⟨pb, 0, none⟩), .pointer (some ⟨tb, 0, none⟩)]]
  tbase : B ≤ tb
  mbase : B ≤ mb
  text : w.ownsRow B 9 1 tv M.length (strV (Fs.txt M))
  map : MapG 9 w mb M.length (plcF M)
theorem PkA.keep {w w' : World} {B tb pb mb wb : Nat} {tv : Value} {M : List (List Fs.En)} (h : PkA w B tb pb mb wb tv M) (hb : Below w.heap.size w w') : PkA w' B tb pb mb wb tv M :=
  ⟨h.tbox.keep (hb.block _ h.tbox.lt), h.pbox.keep (hb.block _ h.pbox.lt), h.wbox.keep (hb.block _ h.wbox.lt), h.tbase, h.mbase, ownsRow_keep h.text fun k hk => hb.block k (own_kind h.text k hk).2.1, h.map.kt (hb.block _ h.map.lt)⟩
/-- A text has been put behind the others, and its place into the map. -/
theorem PkA.put {w w1 w3 : World} {B tb pb mb wb g cap : Nat} {tv : Value} {M : List (List Fs.En)} {l : List Fs.En} (h : PkA w B tb pb mb wb tv M) (hN : Fs.Net M) (hw : ∀ x ∈ Fs.ways l, x.2.2 ∈ M) (hn : Fs.nodeB M l ∉ Fs.txt M)
    (hm : MapG 9 w1 mb (M.length + 1) (updG (plcF M) (.string (Fs.nodeB M l)) (some (.int .i64 (M.length : Int))))) (h1 : w.grownBy w1 (some mb))
    (h3 : w3.ownsRow B 9 1 (.slice (some ⟨g, 0, none⟩) (M.length + 1) cap) (M.length + 1) (strV (Fs.txt M) ++ [.string (bs (Fs.nodeB M l))])) (hg : Grew w1 w3 tv (.slice (some ⟨g, 0, none⟩) (M.length + 1) cap)) :
    (w3.cell? ⟨tb, 0, none⟩ = some tv ∧ w3.frozen? ⟨tb, 0, none⟩ = false) ∧ PkA (w3.setCell ⟨tb, 0, none⟩ (.slice (some ⟨g, 0, none⟩) (M.length + 1) cap)) B tb pb mb wb (.slice (some ⟨g, 0, none⟩) (M.length + 1) cap) (M ++ [l]) ∧ KeptT [51, 55, 26] B w (w3.setCell ⟨tb, 0, none⟩ (.slice (some ⟨g, 0, none⟩) (M.length + 1) cap)) := by
  have k0 : ∀ T, KeptT T B w w1 := fun T => KeptT.one mb ⟨h1.os, h1.tape, h1.output, h1.size, fun k hk hf => h1.block k hk (fun e => hf (by injection e))⟩ h.mbase fun c t fz hc => absurd hc (h.map.kindT c t fz)
  have t1 : w1.ownsRow B 9 1 tv M.length (strV (Fs.txt M)) := ownsRow_kt h.text (k0 [9]) (by decide)
  have k1 : KeptT [51, 55, 26, 40, 84, 85] B w w3 := (k0 _).trans (hg.keptT t1 (by decide))
  have b3 : RowT 40 w3 tb #[tv] := h.tbox.keep (k1.kind tb _ _ _ h.tbox (by decide))
  have p3 : RowT 84 w3 pb _ := h.pbox.keep (k1.kind pb _ _ _ h.pbox (by decide))
  have q3 : RowT 85 w3 wb _ := h.wbox.keep (k1.kind wb _ _ _ h.wbox (by decide))
  have k2 : KeptT [51, 55, 26, 9, 84, 85] B w3 (w3.setCell ⟨tb, 0, none⟩ (.slice (some ⟨g, 0, none⟩) (M.length + 1) cap)) := KeptT.set tb 0 _ h.tbase fun c t fz hc => by
    rw [kind_inj hc b3]
    decide
  have m3 : w3.heap[mb]? = w1.heap[mb]? := hg.far hm.lt fun e => by
    obtain ⟨_, _, c, fz, hc⟩ := own_kind t1 mb e
    exact hm.kindT c _ fz hc
  have hne : mb ≠ tb := fun e => by
    subst e
    exact h.map.kindT _ _ _ h.tbox
  rw [strV_snoc, ← Fs.txt_snoc hN hw] at h3
  refine ⟨⟨b3.cell 0, b3.frozen 0⟩, ⟨b3.set 0 _, p3.keep (k2.kind pb _ _ _ p3 (by decide)), q3.keep (k2.kind wb _ _ _ q3 (by decide)), h.tbase, h.mbase, ?_, ?_⟩, (k1.less (by decide)).trans (k2.less (by decide))⟩
  · have := ownsRow_kt h3 k2 (by decide)
    simpa using this
  · have h5 : MapG 9 (w3.setCell ⟨tb, 0, none⟩ (.slice (some ⟨g, 0, none⟩) (M.length + 1) cap)) mb (M.length + 1) (updG (plcF M) (.string (Fs.nodeB M l)) (some (.int .i64 (M.length : Int)))) := hm.kt ((heap_other _ _ _ _ _ hne).trans m3)
    rw [List.length_append, List.length_singleton]
    refine h5.congr fun kl hk => ?_
    cases kl with
    | string s =>
      by_cases e : s = Fs.nodeB M l
      · subst e
        rw [updG_same]
        show _ = (Fs.place (M ++ [l]) (Fs.nodeB M l)).map _
        rw [Fs.place_snoc hN hw hn, if_pos rfl]
        rfl
      · rw [updG_other _ _ _ _ (fun q => e (by injection q))]
        show (Fs.place M s).map _ = (Fs.place (M ++ [l]) s).map _
        rw [Fs.place_snoc hN hw hn, if_neg e]
    | _ => rw [updG_other _ _ _ _ (fun q => by cases q)]; rfl
end Go.Proofs.Ytdjiknakbldggaa

/-
  Results that lie in a box.
-/
namespace Go.Proofs.Ytdjiknakbldggaa
open Go.RowKit Go.Maps
theorem results_cell_tmp {P : Program} {fn : Func} {a u : Tmp} {t : TypeId} (h : fn.results = #[.cell a t, .tmp u]) (tmps : Array Value) (w : World) (p : Addr) (v : Value) (ha : tmps.getD a undef = .pointer (some p)) (hl : (loadVar t p).run P w = .ok v w) :
    (results fn tmps).run P w = .ok (.tuple #[v, tmps.getD u undef]) w := by
  have h2 : (asAddr (tmps.getD a undef)).run P w = .ok p w := by rw [ha]; rfl
  unfold results
  rw [h]
  simp only [Sem.run_bind, List.mapM_toArray, List.mapM_cons, List.mapM_nil, h2, Result.andThen_ok, hl, Sem.run_pure, Sem.run_map]
  simp
theorem aggS (w : World) : (isAgg 40).run Try.prog w = .ok false w := by kernel_rfl
theorem aggN (w : World) : (isAgg 51).run Try.prog w = .ok true w := by kernel_rfl
theorem sizeN (w : World) : (sizeOf 51).run Try.prog w = .ok 3 w := by kernel_rfl
theorem loadS (w : World) (p : Addr) (v : Value) (h : w.cell? p = some v) : (loadVar 40 p).run Try.prog w = .ok v w := by
  unfold loadVar
  rw [Sem.run_bind, aggS]
  simp [go_sem, h]
theorem loadN (w : World) (b : Nat) (c0 c1 c2 : Value) (h0 : w.cell? ⟨b, 0, none⟩ = some c0) (h1 : w.cell? ⟨b, 1, none⟩ = some c1) (h2 : w.cell? ⟨b, 2, none⟩ = some c2) : (loadVar 51 ⟨b, 0, none⟩).run Try.prog w = .ok (.agg #[c0, c1, c2]) w := by
  unfold loadVar
  rw [Sem.run_bind, aggN]
  simp only [Result.andThen_ok, if_true, Sem.run_bind, sizeN]
  have h := run_loadCells_list (P := Try.prog) w ⟨b, 0, none⟩ [c0, c1, c2] (fun j v hj => by
    match j, hj with
    | 0, hj => simp at hj; subst hj; simpa [Addr.add] using h0
    | 1, hj => simp at hj; subst hj; simpa [Addr.add] using h1
    | 2, hj => simp at hj; subst hj; simpa [Addr.add] using h2)
  rw [show [c0, c1, c2].length = 3 from rfl] at h
  rw [h]
  rfl
end Go.Proofs.Ytdjiknakbldggaa
