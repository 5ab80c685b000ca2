/-
  What the walks share: slices of numbers and of bytes in memory, wherever they lie or the call's own.
-/
import Derived.Test.YtmpjhbbcfnffhaaProg
import Derived.WalkKit
import Derived.WalkSpells
import Derived.WalkLawsBesides
import Derived.IntWalk
import Derived.Lib.Hide
import Derived.OwnWalk
import Derived.Laws.IdiomStrings
import Derived.Deep.LoopGhost
import Derived.Deep.OwnRows
import Derived.Lib.Strings
import Derived.BigQuiet
import Derived.Laws.AppendOwnNone
namespace Go.Proofs.Ytmpjhbbcfnffhaa
open Go.RowKit

theorem Try.infoB : (Try.prog.info? 5).map (fun i => (i.zero, i.size, i.bytes)) = some (some (.int .u8 0), 1, 1) := by kernel_rfl

theorem Try.infoI : (Try.prog.info? 3).map (fun i => (i.zero, i.size, i.bytes)) = some (some (.int .i64 0), 1, 8) := by kernel_rfl
theorem mk_of {s : ByteArray} {l : List UInt8} (h : s.data.toList = l) : s = ⟨l.toArray⟩ := by
  subst h
  cases s
  simp
theorem cut_mk (s : ByteArray) (y n : Nat) : s.extract y (y + n) = ⟨((s.data.toList.drop y).take n).toArray⟩ := by
  apply mk_of
  rw [Lib.extract_data, Nat.add_sub_cancel_left]

/-- Bytes as cells. -/
def bytesV (l : List UInt8) : List Value := l.map (fun c => .int .u8 (c.toNat : Int))
theorem bytesV_snoc (l : List UInt8) (c : UInt8) : bytesV l ++ [.int .u8 (c.toNat : Int)] = bytesV (l ++ [c]) := by simp [bytesV]
theorem bytesV_length (l : List UInt8) : (bytesV l).length = l.length := by simp [bytesV]

/-- The slice v is the call's own, from block B on, and holds these bytes. -/
def OwnB (w : World) (B : Nat) (v : Value) (l : List UInt8) : Prop := w.ownsRow B 5 1 v l.length (bytesV l)

theorem own_conv {w : World} {B : Nat} {v : Value} {l : List UInt8} (h : OwnB w B v l) :
    (convert 61 9 v).run Try.prog w = .ok (.string ⟨l.toArray⟩) w := by
  have hown : w.ownsRow B 5 1 v l.length (bytesV l) := h
  rcases h.2 with ⟨rfl, h0⟩ | ⟨g, cap, cur, rfl, hg, hh, hnc, hcp, hcs, htake⟩
  · obtain rfl : l = [] := List.length_eq_zero_iff.1 h0
    rw [run_convert_bytes_string w 61 9 5 none 0 0 Try.underlying61 Try.underlying5 Try.underlying9]
    simp [Conv.bytesToString]
    rfl
  · have hcells : ∀ j (hj : j < l.length), w.cell? ((⟨g, 0, none⟩ : Addr).add j) = some (.int .u8 (l[j].toNat : Int)) := fun j hj => by
      rw [Addr.add_lit, Nat.zero_add, hown.cellAt j (by omega)]
      simp [bytesV, hj]
    exact run_convert_bytes_back (P := Try.prog) w 61 9 5 ⟨g, 0, none⟩ cap l Try.underlying61 Try.underlying5 Try.underlying9 hcells

/-- Behind an append of one byte. -/
theorem own_push {w wr w1 : World} {B : Nat} {v v' : Value} {l : List UInt8} {c : UInt8} {o : Obj} (hB : B ≤ wr.heap.size) (h : OwnB wr B v l) (hb : Below B w wr)
    (h1 : w1.ownsRow B 5 1 v' (l.length + 1) (bytesV l ++ [.int .u8 (c.toNat : Int)])) (hg : (wr.alloc o).grownBy w1 v.ownBlock) :
    OwnB w1 B v' (l ++ [c]) ∧ Below B w w1 := by
  have hown : wr.ownsRow B 5 1 v l.length (bytesV l) := h
  refine ⟨?_, (hb.alloc hB o).grown hg (by simp; omega) (fun j hj => (hown.lt j hj).1)⟩
  unfold OwnB
  rw [bytesV_snoc] at h1
  simpa using h1

theorem drop_cons (s : ByteArray) (k : Nat) (h : k < s.size) : s.data.toList.drop k = s[k] :: s.data.toList.drop (k + 1) := by
  have hl : k < s.data.toList.length := by simpa using h
  rw [List.drop_eq_getElem_cons hl]
  rfl
theorem drop_all (s : ByteArray) (k : Nat) (h : s.size ≤ k) : s.data.toList.drop k = [] := by
  apply List.drop_of_length_le
  simpa using h
/-- Numbers as cells. -/
def intsV (l : List Int) : List Value := l.map (fun c => .int .i64 c)
theorem intsV_snoc (l : List Int) (c : Int) : intsV l ++ [.int .i64 c] = intsV (l ++ [c]) := by simp [intsV]
theorem intsV_append (l r : List Int) : intsV l ++ intsV r = intsV (l ++ r) := by simp [intsV]
theorem intsV_length (l : List Int) : (intsV l).length = l.length := by simp [intsV]
/-- The slice v is the call's own, from block B on, and holds these numbers. -/
def OwnI (w : World) (B : Nat) (v : Value) (l : List Int) : Prop := w.ownsRow B 3 1 v l.length (intsV l)
/-- Behind an append of one number. -/
theorem ownI_push {w wr w1 : World} {B : Nat} {v v' : Value} {l : List Int} {c : Int} {o : Obj} (hB : B ≤ wr.heap.size) (h : OwnI wr B v l) (hb : Below B w wr)
    (h1 : w1.ownsRow B 3 1 v' (l.length + 1) (intsV l ++ [.int .i64 c])) (hg : (wr.alloc o).grownBy w1 v.ownBlock) :
    OwnI w1 B v' (l ++ [c]) ∧ Below B w w1 := by
  have hown : wr.ownsRow B 3 1 v l.length (intsV l) := h
  refine ⟨?_, (hb.alloc hB o).grown hg (by simp; omega) (fun j hj => (hown.lt j hj).1)⟩
  unfold OwnI
  rw [intsV_snoc] at h1
  simpa using h1
/-- An own slice, its cells told one by one. -/
theorem ownI_cells {w : World} {B : Nat} {v : Value} {l : List Int} (h : OwnI w B v l) : ∃ a cap, v = .slice a l.length cap ∧ (0 < l.length → ∃ g, a = some ⟨g, 0, none⟩ ∧ g < w.heap.size ∧ ∀ j (hj : j < l.length), w.cell? ⟨g, j, none⟩ = some (.int .i64 l[j])) := by
  have hown : w.ownsRow B 3 1 v l.length (intsV l) := h
  rcases h.2 with ⟨rfl, h0⟩ | ⟨g, cap, cur, rfl, hg, hh, hnc, hcp, hcs, htake⟩
  · exact ⟨none, 0, by rw [h0], fun h => by omega⟩
  · refine ⟨_, _, rfl, fun h => ⟨g, rfl, (hown.lt g rfl).2, fun j hj => ?_⟩⟩
    rw [hown.cellAt j (by omega)]
    simp [intsV, hj]

/-- The value v is a slice of these numbers. -/
def IntS (w : World) (v : Value) (xs : List Int) : Prop :=
  ∃ a cap, v = .slice a xs.length cap ∧ xs.length ≤ cap ∧ cap ≤ 9223372036854775807 ∧ (0 < xs.length → ∃ g o, a = some ⟨g, o, none⟩ ∧ g < w.heap.size ∧ ∀ j (_ : j < xs.length), w.cell? ⟨g, o + j, none⟩ = some (.int .i64 xs[j]))
theorem IntS.below {w w' : World} {B : Nat} {v : Value} {xs : List Int} (h : IntS w v xs) (hb : Below B w w') (hB : w.heap.size ≤ B) : IntS w' v xs := by
  obtain ⟨a, cap, h1, h2, h3, h4⟩ := h
  refine ⟨a, cap, h1, h2, h3, fun h0 => ?_⟩
  obtain ⟨g, o, h5, h6, h7⟩ := h4 h0
  exact ⟨g, o, h5, Nat.lt_of_lt_of_le h6 hb.size, fun j hj => (hb.cell (p := ⟨g, o + j, none⟩) (Nat.lt_of_lt_of_le h6 hB)).trans (h7 j hj)⟩
theorem belowN {B : Nat} {a w : World} (h : Below B a w) (n : Nat) : Below B a (w.drewN n) := h.trans ⟨rfl, rfl, rfl, Nat.le_refl _, fun _ _ => rfl⟩
theorem take_eq_snoc {xs ys : List Int} {k : Nat} (h1 : k < xs.length) (h2 : k < ys.length) (h : xs.take k = ys.take k) (e : xs[k] = ys[k]) : xs.take (k + 1) = ys.take (k + 1) := by
  rw [List.take_succ_eq_append_getElem h1, List.take_succ_eq_append_getElem h2, h, e]

theorem OwnI.ints {w : World} {B : Nat} {v : Value} {l : List Int} (h : OwnI w B v l) (_ : l.length ≤ 140737488355328) : IntS w v l := by
  rcases h.2 with ⟨rfl, h0⟩ | ⟨g, cap, cur, rfl, hg, hh, hnc, hcp, hcs, htake⟩
  · exact ⟨none, 0, by rw [h0], by omega, by omega, fun h => by omega⟩
  · have hown : w.ownsRow B 3 1 (.slice (some ⟨g, 0, none⟩) l.length cap) l.length (intsV l) := h
    refine ⟨_, cap, rfl, hnc, by unfold maxLen at hcp; omega, fun h => ⟨g, 0, rfl, (hown.lt g rfl).2, fun j hj => ?_⟩⟩
    rw [Nat.zero_add, hown.cellAt j (by omega)]
    simp [intsV, hj]
/-- Behind an append of numbers that lie elsewhere. -/
theorem ownI_pushAll {w wr w1 : World} {B : Nat} {v v' : Value} {l r : List Int} (hB : B ≤ wr.heap.size) (h : OwnI wr B v l) (hb : Below B w wr)
    (h1 : w1.ownsRow B 3 1 v' (l.length + r.length) (intsV l ++ intsV r)) (hg : wr.grownBy w1 v.ownBlock) :
    OwnI w1 B v' (l ++ r) ∧ Below B w w1 := by
  have hown : wr.ownsRow B 3 1 v l.length (intsV l) := h
  refine ⟨?_, hb.grown hg hB (fun j hj => (hown.lt j hj).1)⟩
  unfold OwnI
  rw [intsV_append] at h1
  simpa using h1
theorem OwnI.keep {w w' : World} {B B' : Nat} {v : Value} {l : List Int} (h : OwnI w B v l) (hb : Below B' w w') (hB : w.heap.size ≤ B') : OwnI w' B v l := by
  have hown : w.ownsRow B 3 1 v l.length (intsV l) := h
  refine ⟨h.1, ?_⟩
  rcases h.2 with ⟨h1, h2⟩ | ⟨g, cap, cur, h1, hg, hh, hnc, hcp, hcs, htake⟩
  · exact .inl ⟨h1, h2⟩
  · have hlt : g < w.heap.size := (hown.lt g (by rw [h1]; rfl)).2
    exact .inr ⟨g, cap, cur, h1, hg, (hb.block g (Nat.lt_of_lt_of_le hlt hB)).trans hh, hnc, hcp, hcs, htake⟩
theorem chain_d {w w2 w3 : World} (h : Below w.heap.size w w2) (hb : Below w2.drew.heap.size w2.drew w3) : Below w.heap.size w w3 := by
  have h1 : Below w2.heap.size w2 w3 := (Below.refl w2.heap.size w2).drew.trans hb
  exact h.trans (h1.mono h.size)
/-- A slice that a call has just laid. -/
theorem ints_lit (w : World) (zs : List Int) (h0 : zs.length ≤ 9223372036854775807) : IntS (w.alloc (.cells (intsV zs).toArray 3)) (.slice (some ⟨w.heap.size, 0, none⟩) zs.length zs.length) zs := by
  refine ⟨_, zs.length, rfl, Nat.le_refl _, h0, fun _ => ⟨w.heap.size, 0, rfl, by simp, fun j hj => ?_⟩⟩
  rw [Nat.zero_add, World.cell?_alloc_at _ _ _ _ rfl]
  simp [intsV, hj]
/-- Numbers that a word holds. -/
def Wf (zs : List Int) : Prop := ∀ z ∈ zs, -9223372036854775808 ≤ z ∧ z ≤ 9223372036854775807
theorem ownI_old {w wr w1 : World} {B : Nat} {v v' : Value} {r : List Int} (hB : B ≤ wr.heap.size) (hown : wr.ownsRow B 3 1 v 0 []) (hb : Below B w wr)
    (h1 : w1.ownsRow B 3 1 v' (0 + r.length) ([] ++ intsV r)) (hg : wr.grownBy w1 v.ownBlock) :
    OwnI w1 B v' r ∧ Below B w w1 := by
  refine ⟨?_, hb.grown hg hB (fun j hj => (hown.lt j hj).1)⟩
  unfold OwnI
  simpa using h1

theorem news_77 (w1 : World) : ∀ j u, [Value.int .i64 77][j]? = some u → (w1.alloc (.cells #[.int .i64 77] 3)).cell? ((⟨w1.heap.size, 0, none⟩ : Addr).add j) = some u := by
  intro j u hj
  match j, hj with
  | 0, hj => simp at hj; subst hj; simp [Addr.add]
theorem one_77 : ∀ u ∈ [Value.int .i64 77], u.oneCell' = true := by
  intro u hu
  simp at hu
  subst hu
  rfl
/-- A list with one number more behind it: the slice of the list, and the number. -/
theorem in_split {w : World} {B : Nat} {v : Value} {zs : List Int} {c : Int} (h : OwnI w B v (zs ++ [c])) : ∃ g cap, v = .slice (some ⟨g, 0, none⟩) (zs.length + 1) cap ∧ zs.length + 1 ≤ cap ∧ cap ≤ 9223372036854775807 ∧ g < w.heap.size ∧ w.cell? ⟨g, zs.length, none⟩ = some (.int .i64 c) ∧ IntS w (.slice (some ⟨g, 0, none⟩) zs.length cap) zs := by
  have hl : (zs ++ [c]).length = zs.length + 1 := by simp
  rcases h.2 with ⟨h1, h2⟩ | ⟨g, cap, cur, rfl, hg, hh, hnc, hcp, hcs, htake⟩
  · omega
  · have hown : w.ownsRow B 3 1 (.slice (some ⟨g, 0, none⟩) (zs ++ [c]).length cap) (zs ++ [c]).length (intsV (zs ++ [c])) := h
    unfold maxLen at hcp
    have hcell : ∀ j (hj : j < (zs ++ [c]).length), w.cell? ⟨g, j, none⟩ = some (.int .i64 (zs ++ [c])[j]) := fun j hj => by
      rw [hown.cellAt j (by omega)]
      show (intsV (zs ++ [c]))[j]? = _
      unfold intsV
      rw [List.getElem?_map, List.getElem?_eq_getElem hj]
      rfl
    refine ⟨g, cap, by rw [hl], by omega, by omega, (hown.lt g rfl).2, ?_, ⟨_, cap, rfl, by omega, by omega, fun _ => ⟨g, 0, rfl, (hown.lt g rfl).2, fun j hj => ?_⟩⟩⟩
    · rw [hcell zs.length (by omega)]
      simp
    · rw [Nat.zero_add, hcell j (by omega), List.getElem_append_left hj]


end Go.Proofs.Ytmpjhbbcfnffhaa
