/-
  Slices of words of 64 bits in memory, wherever they lie or the call's own; append onto them.
-/
import Derived.Test.YthlbeehlcgnggaaProg
import Derived.WalkKit
import Derived.WalkSpells
import Derived.WalkLawsBesides
import Derived.IntWalk
import Derived.Lib.Hide
import Derived.OwnWalk
import Derived.Deep.LoopGhost
import Derived.Deep.OwnRows
import Derived.BigQuiet
import Derived.Laws.AppendOwnNone
namespace Go.Proofs.Ythlbeehlcgnggaa
open Go.RowKit

theorem Try.infoU : (Try.prog.info? 22).map (fun i => (i.zero, i.size, i.bytes)) = some (some (.int .u64 0), 1, 8) := by kernel_rfl

/-- Numbers as cells. -/
def wordsV (l : List Nat) : List Value := l.map (fun (c : Nat) => .int .u64 (c : Int))

theorem wordsV_snoc (l : List Nat) (c : Nat) : wordsV l ++ [.int .u64 c] = wordsV (l ++ [c]) := by simp [wordsV]

theorem wordsV_append (l r : List Nat) : wordsV l ++ wordsV r = wordsV (l ++ r) := by simp [wordsV]

theorem wordsV_length (l : List Nat) : (wordsV l).length = l.length := by simp [wordsV]

/-- The slice v is the call's own, from block B on, and holds these numbers. -/
def OwnU (w : World) (B : Nat) (v : Value) (l : List Nat) : Prop := w.ownsRow B 22 1 v l.length (wordsV l)

/-- Behind an append of one number. -/
theorem ownU_push {w wr w1 : World} {B : Nat} {v v' : Value} {l : List Nat} {c : Nat} {o : Obj} (hB : B ≤ wr.heap.size) (h : OwnU wr B v l) (hb : Below B w wr)
    (h1 : w1.ownsRow B 22 1 v' (l.length + 1) (wordsV l ++ [.int .u64 c])) (hg : (wr.alloc o).grownBy w1 v.ownBlock) :
    OwnU w1 B v' (l ++ [c]) ∧ Below B w w1 := by
  have hown : wr.ownsRow B 22 1 v l.length (wordsV l) := h
  refine ⟨?_, (hb.alloc hB o).grown hg (by simp; omega) (fun j hj => (hown.lt j hj).1)⟩
  unfold OwnU
  rw [wordsV_snoc] at h1
  simpa using h1

/-- An own slice, its cells told one by one. -/
theorem ownU_cells {w : World} {B : Nat} {v : Value} {l : List Nat} (h : OwnU w B v l) : ∃ a cap, v = .slice a l.length cap ∧ (0 < l.length → ∃ g, a = some ⟨g, 0, none⟩ ∧ g < w.heap.size ∧ ∀ j (hj : j < l.length), w.cell? ⟨g, j, none⟩ = some (.int .u64 l[j])) := by
  have hown : w.ownsRow B 22 1 v l.length (wordsV l) := h
  rcases h.2 with ⟨rfl, h0⟩ | ⟨g, cap, cur, rfl, hg, hh, hnc, hcp, hcs, htake⟩
  · exact ⟨none, 0, by rw [h0], fun h => by omega⟩
  · refine ⟨_, _, rfl, fun h => ⟨g, rfl, (hown.lt g rfl).2, fun j hj => ?_⟩⟩
    rw [hown.cellAt j (by omega)]
    simp [wordsV, hj]

/-- The value v is a slice of these numbers. -/
def WordS (w : World) (v : Value) (xs : List Nat) : Prop :=
  ∃ a cap, v = .slice a xs.length cap ∧ xs.length ≤ cap ∧ cap ≤ 9223372036854775807 ∧ (0 < xs.length → ∃ g o, a = some ⟨g, o, none⟩ ∧ g < w.heap.size ∧ ∀ j (_ : j < xs.length), w.cell? ⟨g, o + j, none⟩ = some (.int .u64 xs[j]))

theorem WordS.below {w w' : World} {B : Nat} {v : Value} {xs : List Nat} (h : WordS w v xs) (hb : Below B w w') (hB : w.heap.size ≤ B) : WordS w' v xs := by
  obtain ⟨a, cap, h1, h2, h3, h4⟩ := h
  refine ⟨a, cap, h1, h2, h3, fun h0 => ?_⟩
  obtain ⟨g, o, h5, h6, h7⟩ := h4 h0
  exact ⟨g, o, h5, Nat.lt_of_lt_of_le h6 hb.size, fun j hj => (hb.cell (p := ⟨g, o + j, none⟩) (Nat.lt_of_lt_of_le h6 hB)).trans (h7 j hj)⟩

theorem OwnU.ints {w : World} {B : Nat} {v : Value} {l : List Nat} (h : OwnU w B v l) (_ : l.length ≤ 140737488355328) : WordS w v l := by
  rcases h.2 with ⟨rfl, h0⟩ | ⟨g, cap, cur, rfl, hg, hh, hnc, hcp, hcs, htake⟩
  · exact ⟨none, 0, by rw [h0], by omega, by omega, fun h => by omega⟩
  · have hown : w.ownsRow B 22 1 (.slice (some ⟨g, 0, none⟩) l.length cap) l.length (wordsV l) := h
    refine ⟨_, cap, rfl, hnc, by unfold maxLen at hcp; omega, fun h => ⟨g, 0, rfl, (hown.lt g rfl).2, fun j hj => ?_⟩⟩
    rw [Nat.zero_add, hown.cellAt j (by omega)]
    simp [wordsV, hj]

/-- Behind an append of numbers that lie elsewhere. -/
theorem ownU_pushAll {w wr w1 : World} {B : Nat} {v v' : Value} {l r : List Nat} (hB : B ≤ wr.heap.size) (h : OwnU wr B v l) (hb : Below B w wr)
    (h1 : w1.ownsRow B 22 1 v' (l.length + r.length) (wordsV l ++ wordsV r)) (hg : wr.grownBy w1 v.ownBlock) :
    OwnU w1 B v' (l ++ r) ∧ Below B w w1 := by
  have hown : wr.ownsRow B 22 1 v l.length (wordsV l) := h
  refine ⟨?_, hb.grown hg hB (fun j hj => (hown.lt j hj).1)⟩
  unfold OwnU
  rw [wordsV_append] at h1
  simpa using h1

theorem news_77U (w1 : World) : ∀ j u, [Value.int .u64 77][j]? = some u → (w1.alloc (.cells #[.int .u64 77] 22)).cell? ((⟨w1.heap.size, 0, none⟩ : Addr).add j) = some u := by
  intro j u hj
  match j, hj with
  | 0, hj => simp at hj; subst hj; simp [Addr.add]

theorem one_77U : ∀ u ∈ [Value.int .u64 77], u.oneCell' = true := by
  intro u hu
  simp at hu
  subst hu
  rfl

/-- A list with one number more behind it: the slice of the list, and the number. -/
theorem in_splitU {w : World} {B : Nat} {v : Value} {zs : List Nat} {c : Nat} (h : OwnU w B v (zs ++ [c])) : ∃ g cap, v = .slice (some ⟨g, 0, none⟩) (zs.length + 1) cap ∧ zs.length + 1 ≤ cap ∧ cap ≤ 9223372036854775807 ∧ g < w.heap.size ∧ w.cell? ⟨g, zs.length, none⟩ = some (.int .u64 c) ∧ WordS w (.slice (some ⟨g, 0, none⟩) zs.length cap) zs := by
  have hl : (zs ++ [c]).length = zs.length + 1 := by simp
  rcases h.2 with ⟨h1, h2⟩ | ⟨g, cap, cur, rfl, hg, hh, hnc, hcp, hcs, htake⟩
  · omega
  · have hown : w.ownsRow B 22 1 (.slice (some ⟨g, 0, none⟩) (zs ++ [c]).length cap) (zs ++ [c]).length (wordsV (zs ++ [c])) := h
    unfold maxLen at hcp
    have hcell : ∀ j (hj : j < (zs ++ [c]).length), w.cell? ⟨g, j, none⟩ = some (.int .u64 (zs ++ [c])[j]) := fun j hj => by
      rw [hown.cellAt j (by omega)]
      show (wordsV (zs ++ [c]))[j]? = _
      unfold wordsV
      rw [List.getElem?_map, List.getElem?_eq_getElem hj]
      rfl
    refine ⟨g, cap, by rw [hl], by omega, by omega, (hown.lt g rfl).2, ?_, ⟨_, cap, rfl, by omega, by omega, fun _ => ⟨g, 0, rfl, (hown.lt g rfl).2, fun j hj => ?_⟩⟩⟩
    · rw [hcell zs.length (by omega)]
      simp
    · rw [Nat.zero_add, hcell j (by omega), List.getElem_append_left hj]

/-- 'append(v, c)' of one number, which lies in a new block. -/
theorem wpList_pushU {ops : Array Oper} {rest : List Oper} {o : Oper} {a : Act} {Q : Exit → Act → World → Prop} {w : World} (hgd : o.guard = none) (s x : Operand)
    (ho : o.op = .call { callee := .builtin .append, args := #[s, x], argTypes := #[27, 27] })
    (B : Nat) (hB : B ≤ w.heap.size) (v : Value) (l : List Nat) (c : Nat) (hs : a.eval s = v) (h : OwnU w B v l) (hx : a.eval x = .slice (some ⟨w.heap.size, 0, none⟩) 1 1)
    (hb : l.length + 1 ≤ 17592186044416)
    (hk : ∀ v' w', OwnU w' B v' (l ++ [c]) → Below B w w' → (w.alloc (.cells #[.int .u64 c] 22)).grownBy w' v.ownBlock → wpList Try.prog ops Q rest (a.put o.dst v') w') :
    wpList Try.prog ops Q (o :: rest) a (w.alloc (.cells #[.int .u64 c] 22)) := by
  obtain ⟨ii, hi, hz0, hz1, hz2⟩ := info_parts Try.infoU
  have hown : w.ownsRow B 22 1 v l.length (wordsV l) := h
  refine wpList_append_own _ hgd s x 27 ho B 22 ii (.int .u64 0) 1 8 Try.underlying27 hi hz0 hz1 hz2 rfl (by decide) _ _ _ hs (hown.alloc _) ⟨w.heap.size, 0, none⟩ 1 1 [.int .u64 c] hx rfl ?_ ?_ (by unfold maxLen; omega) (by omega) (by simp; omega) ?_
  · intro j u hj
    match j, hj with
    | 0, hj => simp at hj; subst hj; simp [Addr.add]
  · intro u hu
    simp at hu
    subst hu
    rfl
  · intro v' w' h1 h2 _
    obtain ⟨h3, h4⟩ := ownU_push hB h (Below.refl B w) h1 h2
    exact hk v' w' h3 h4 h2

/-- 'append(v, r...)' of numbers that lie elsewhere. -/
theorem wpList_appU {ops : Array Oper} {rest : List Oper} {o : Oper} {a : Act} {Q : Exit → Act → World → Prop} {w : World} (hgd : o.guard = none) (s x : Operand)
    (ho : o.op = .call { callee := .builtin .append, args := #[s, x], argTypes := #[27, 27] })
    (B : Nat) (hB : B ≤ w.heap.size) (v : Value) (l r : List Nat) (hs : a.eval s = v) (h : OwnU w B v l) (ad : Addr) (c : Nat) (hx : a.eval x = .slice (some ad) r.length c)
    (hr : WordS w (.slice (some ad) r.length c) r) (hb : l.length + r.length ≤ 17592186044416)
    (hk : ∀ v' w', OwnU w' B v' (l ++ r) → Below B w w' → wpList Try.prog ops Q rest (a.put o.dst v') w') :
    wpList Try.prog ops Q (o :: rest) a w := by
  obtain ⟨ii, hi, hz0, hz1, hz2⟩ := info_parts Try.infoU
  have hown : w.ownsRow B 22 1 v l.length (wordsV l) := h
  refine wpList_append_own _ hgd s x 27 ho B 22 ii (.int .u64 0) 1 8 Try.underlying27 hi hz0 hz1 hz2 rfl (by decide) _ _ _ hs hown ad r.length c (wordsV r) hx (by rw [wordsV_length, Nat.mul_one]) ?_ ?_ (by unfold maxLen; omega) (by omega) hB ?_
  · intro j u hj
    have hjr : j < r.length := by
      have := (List.getElem?_eq_some_iff.1 hj).1
      simpa [wordsV] using this
    obtain ⟨a', cap', hv, _, _, hc⟩ := hr
    obtain ⟨g, o', ha, _, hcl⟩ := hc (by omega)
    simp only [Value.slice.injEq] at hv
    obtain ⟨hv1, _, _⟩ := hv
    rw [← hv1] at ha
    obtain rfl := Option.some.inj ha
    rw [Addr.add_lit, hcl j hjr]
    simp [wordsV, hjr] at hj
    rw [← hj]
  · intro u hu
    obtain ⟨x, _, rfl⟩ := List.mem_map.1 hu
    rfl
  · intro v' w' h1 h2 _
    obtain ⟨h3, h4⟩ := ownU_pushAll hB h (Below.refl B w) h1 h2
    exact hk v' w' h3 h4

end Go.Proofs.Ythlbeehlcgnggaa
