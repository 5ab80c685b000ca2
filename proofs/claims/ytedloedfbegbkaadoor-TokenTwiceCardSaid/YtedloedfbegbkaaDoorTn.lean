/-
  Slices of terms with their places in memory: the call's own, or wherever they lie; whether two are alike.
-/
import Derived.Test.YtedloedfbegbkaaDoorTk
import Derived.Laws.StructEq
namespace Go.Proofs.YtedloedfbegbkaaDoor
open Go.RowKit

theorem Tryd.infoT : (Tryd.prog.info? 41).map (fun i => (i.zero, i.size, i.bytes)) = some (some (.agg #[.string ByteArray.empty, .int .i64 0]), 2, 24) := by kernel_rfl
namespace Ut
/-- A term at its place. -/
structure Tk where
  s : ByteArray
  at' : Int
deriving DecidableEq
/-- Terms, each at its place. -/
def toks (l : List (List UInt8)) : List Tk := l.mapIdx fun i t => ⟨⟨t.toArray⟩, (i : Int)⟩
theorem toks_length (l : List (List UInt8)) : (toks l).length = l.length := by simp [toks]
theorem toks_snoc (l : List (List UInt8)) (t : List UInt8) : toks (l ++ [t]) = toks l ++ [⟨⟨t.toArray⟩, (l.length : Int)⟩] := by
  unfold toks
  rw [List.mapIdx_concat]
theorem toks_at (l : List (List UInt8)) (i : Nat) (h : i < (toks l).length) (h' : i < l.length) : (toks l)[i] = ⟨⟨l[i].toArray⟩, (i : Int)⟩ := by
  simp [toks]
theorem toks_nil : toks [] = [] := rfl
end Ut
/-- Terms as cells. -/
def tksV (l : List Ut.Tk) : List Value := l.flatMap fun x => [.string x.s, .int .i64 x.at']
theorem tksV_length (l : List Ut.Tk) : (tksV l).length = l.length * 2 := by
  induction l with
  | nil => rfl
  | cons x t ih =>
    show (_ :: _ :: tksV t).length = _
    simp only [List.length_cons, ih]
    omega
theorem tksV_s (l : List Ut.Tk) : ∀ i (h : i < l.length), (tksV l)[i * 2]? = some (.string l[i].s) := by
  induction l with
  | nil => intro i h; cases h
  | cons x t ih =>
    intro i h
    cases i with
    | zero => rfl
    | succ i =>
      simp only [List.length_cons, Nat.add_lt_add_iff_right] at h
      have e : (i + 1) * 2 = i * 2 + 1 + 1 := by omega
      rw [e]
      exact ih i h
theorem tksV_n (l : List Ut.Tk) : ∀ i (h : i < l.length), (tksV l)[i * 2 + 1]? = some (.int .i64 l[i].at') := by
  induction l with
  | nil => intro i h; cases h
  | cons x t ih =>
    intro i h
    cases i with
    | zero => rfl
    | succ i =>
      simp only [List.length_cons, Nat.add_lt_add_iff_right] at h
      have e : (i + 1) * 2 + 1 = i * 2 + 1 + 1 + 1 := by omega
      rw [e]
      exact ih i h
theorem tksV_snoc (l : List Ut.Tk) (x : Ut.Tk) : tksV l ++ [.string x.s, .int .i64 x.at'] = tksV (l ++ [x]) := by simp [tksV]
/-- The value v is a slice of these terms. -/
def TkS (w : World) (v : Value) (l : List Ut.Tk) : Prop :=
  ∃ a cap, v = .slice a l.length cap ∧ l.length ≤ cap ∧ cap ≤ 9223372036854775807 ∧ (0 < l.length → ∃ g, a = some ⟨g, 0, none⟩ ∧ g < w.heap.size ∧ ∀ i (_ : i < l.length), w.cell? ⟨g, i * 2, none⟩ = some (.string l[i].s) ∧ w.cell? ⟨g, i * 2 + 1, none⟩ = some (.int .i64 l[i].at'))
theorem TkS.below {w w' : World} {B : Nat} {v : Value} {l : List Ut.Tk} (h : TkS w v l) (hb : Below B w w') (hB : w.heap.size ≤ B) : TkS w' v l := by
  obtain ⟨a, cap, h1, h2, h3, h4⟩ := h
  refine ⟨a, cap, h1, h2, h3, fun h0 => ?_⟩
  obtain ⟨g, h5, h6, h7⟩ := h4 h0
  exact ⟨g, h5, Nat.lt_of_lt_of_le h6 hb.size, fun i hi => ⟨(hb.cell (p := ⟨g, i * 2, none⟩) (Nat.lt_of_lt_of_le h6 hB)).trans (h7 i hi).1, (hb.cell (p := ⟨g, i * 2 + 1, none⟩) (Nat.lt_of_lt_of_le h6 hB)).trans (h7 i hi).2⟩⟩
/-- The slice v is the call's own, from block B on, and holds these terms. -/
def OwnT (w : World) (B : Nat) (v : Value) (l : List Ut.Tk) : Prop := w.ownsRow B 41 2 v l.length (tksV l)
/-- An own slice, its cells told one by one. -/
theorem OwnT.opened {w : World} {B : Nat} {v : Value} {l : List Ut.Tk} (h : OwnT w B v l) : ∃ g a cap, v = .slice a l.length cap ∧ l.length ≤ cap ∧ cap ≤ 9223372036854775807 ∧ (0 < l.length → a = some ⟨g, 0, none⟩ ∧ g < w.heap.size) ∧ B ≤ g ∧
    ∀ i (_ : i < l.length), w.cell? ⟨g, i * 2, none⟩ = some (.string l[i].s) ∧ w.cell? ⟨g, i * 2 + 1, none⟩ = some (.int .i64 l[i].at') ∧ ∀ j, w.frozen? ⟨g, j, none⟩ = false := by
  rcases h.2 with ⟨rfl, h0⟩ | ⟨g, cap, cur, rfl, hg, hh, hnc, hcp, hcs, htake⟩
  · exact ⟨B, none, 0, by rw [h0], by omega, by omega, fun h => by omega, Nat.le_refl _, fun i hi => by omega⟩
  · have hown : w.ownsRow B 41 2 (.slice (some ⟨g, 0, none⟩) l.length cap) l.length (tksV l) := h
    refine ⟨g, _, cap, rfl, hnc, by unfold maxLen at hcp; omega, fun _ => ⟨rfl, (hown.lt g rfl).2⟩, hg, fun i hi => ?_⟩
    have e : ∀ j u, (tksV l)[j]? = some u → w.cell? ⟨g, j, none⟩ = some u := fun j u hj => by
      have h := hown.cells (g := g) rfl j u hj
      rw [Addr.add_lit, Nat.zero_add] at h
      exact h
    exact ⟨e _ _ (tksV_s l i hi), e _ _ (tksV_n l i hi), fun j => by simp [World.frozen?, hh]⟩
theorem OwnT.tks {w : World} {B : Nat} {v : Value} {l : List Ut.Tk} (h : OwnT w B v l) : TkS w v l := by
  obtain ⟨g, a, cap, h1, h2, h3, h4, _, h5⟩ := h.opened
  exact ⟨a, cap, h1, h2, h3, fun h0 => ⟨g, (h4 h0).1, (h4 h0).2, fun i hi => ⟨(h5 i hi).1, (h5 i hi).2.1⟩⟩⟩
theorem OwnT.of_heap {w w' : World} {B : Nat} {v : Value} {l : List Ut.Tk} (h : OwnT w B v l) (e : ∀ k, v.ownBlock = some k → B ≤ k → k < w.heap.size → w'.heap[k]? = w.heap[k]?) : OwnT w' B v l := by
  have hown : w.ownsRow B 41 2 v l.length (tksV l) := h
  refine ⟨h.1, ?_⟩
  rcases h.2 with ⟨h1, h2⟩ | ⟨g, cap, cur, h1, hg, hh, hnc, hcp, hcs, htake⟩
  · exact .inl ⟨h1, h2⟩
  · have hlt : g < w.heap.size := (hown.lt g (by rw [h1]; rfl)).2
    exact .inr ⟨g, cap, cur, h1, hg, (e g (by rw [h1]; rfl) hg hlt).trans hh, hnc, hcp, hcs, htake⟩
theorem OwnT.keep {w w' : World} {B B' : Nat} {v : Value} {l : List Ut.Tk} (h : OwnT w B v l) (hb : Below B' w w') (hB : w.heap.size ≤ B') : OwnT w' B v l :=
  h.of_heap fun k _ _ hk => hb.block k (Nat.lt_of_lt_of_le hk hB)
/-- Two terms that a call has just laid. -/
theorem new_tok (w : World) (s : ByteArray) (m : Int) : ∀ j u, [Value.string s, .int .i64 m][j]? = some u → (w.alloc (.cells #[.string s, .int .i64 m] 41)).cell? ((⟨w.heap.size, 0, none⟩ : Addr).add j) = some u := by
  intro j u hj
  match j, hj with
  | 0, hj => simp at hj; subst hj; simp [Addr.add]
  | 1, hj => simp at hj; subst hj; simp [Addr.add]
theorem one_tok (s : ByteArray) (m : Int) : ∀ u ∈ [Value.string s, .int .i64 m], u.oneCell' = true := by
  intro u hu
  simp only [List.mem_cons, List.mem_nil_iff, or_false] at hu
  rcases hu with rfl | rfl <;> rfl
/-- 'append(v, Token)' of one term, which lies in a new block. -/
theorem wpList_pushT {ops : Array Oper} {rest : List Oper} {o : Oper} {a : Act} {Q : Exit → Act → World → Prop} {w : World} (hgd : o.guard = none) (s x : Operand)
    (ho : o.op = .call { callee := .builtin .append, args := #[s, x], argTypes := #[22, 22] })
    (B : Nat) (hB : B ≤ w.heap.size) (v : Value) (l : List Ut.Tk) (S : ByteArray) (c : Int) (hs : a.eval s = v) (h : OwnT w B v l) (hx : a.eval x = .slice (some ⟨w.heap.size, 0, none⟩) 1 1)
    (hb : l.length + 1 ≤ 1099511627776)
    (hk : ∀ v' w', OwnT w' B v' (l ++ [⟨S, c⟩]) → Below B w w' → (w.alloc (.cells #[.string S, .int .i64 c] 41)).grownBy w' v.ownBlock → wpList Tryd.prog ops Q rest (a.put o.dst v') w') :
    wpList Tryd.prog ops Q (o :: rest) a (w.alloc (.cells #[.string S, .int .i64 c] 41)) := by
  obtain ⟨ii, hi, hz0, hz1, hz2⟩ := info_parts Tryd.infoT
  have hown : w.ownsRow B 41 2 v l.length (tksV l) := h
  refine wpList_append_own _ hgd s x 22 ho B 41 ii _ 2 24 Tryd.underlying22 hi hz0 hz1 hz2 rfl (by decide) _ _ _ hs (hown.alloc _) ⟨w.heap.size, 0, none⟩ 1 1 [.string S, .int .i64 c] hx rfl (new_tok w S c) (one_tok S c) (by unfold maxLen; omega) (by omega) (by simp; omega) ?_
  intro v' w' h1 h2 _
  refine hk v' w' ?_ (((Below.refl B w).alloc hB _).grown h2 (by simp; omega) (fun j hj => (hown.lt j hj).1)) h2
  unfold OwnT
  rw [tksV_snoc l ⟨S, c⟩] at h1
  simpa using h1

theorem takeT_snoc {xs ys : List Ut.Tk} {k : Nat} (h1 : k < xs.length) (h2 : k < ys.length) (h : xs.take k = ys.take k) (e : xs[k] = ys[k]) : xs.take (k + 1) = ys.take (k + 1) := by
  rw [List.take_succ_eq_append_getElem h1, List.take_succ_eq_append_getElem h2, h, e]
end Go.Proofs.YtedloedfbegbkaaDoor
