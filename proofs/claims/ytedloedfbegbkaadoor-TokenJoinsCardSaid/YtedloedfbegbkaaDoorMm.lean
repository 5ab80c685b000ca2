/-
  What the walks share: slices of numbers and of bytes in memory, wherever they lie or the call's own.
-/
import Derived.Test.YtedloedfbegbkaaDoorProg
import Derived.WalkKit
import Derived.WalkSpells
import Derived.WalkLawsBesides
import Derived.IntWalk
import Derived.Lib.Hide
import Derived.OwnWalk
import Derived.Laws.IdiomStrings
import Derived.Deep.LoopGhost
import Derived.Deep.OwnRows
import Derived.Lib.Strings
import Derived.BigQuiet
import Derived.Laws.AppendOwnNone
namespace Go.Proofs.YtedloedfbegbkaaDoor
open Go.RowKit

theorem Tryd.infoB : (Tryd.prog.info? 5).map (fun i => (i.zero, i.size, i.bytes)) = some (some (.int .u8 0), 1, 1) := by kernel_rfl

theorem Tryd.infoI : (Tryd.prog.info? 3).map (fun i => (i.zero, i.size, i.bytes)) = some (some (.int .i64 0), 1, 8) := by kernel_rfl
theorem mk_of {s : ByteArray} {l : List UInt8} (h : s.data.toList = l) : s = ⟨l.toArray⟩ := by
  subst h
  cases s
  simp
theorem cut_mk (s : ByteArray) (y n : Nat) : s.extract y (y + n) = ⟨((s.data.toList.drop y).take n).toArray⟩ := by
  apply mk_of
  rw [Lib.extract_data, Nat.add_sub_cancel_left]

/-- Bytes as cells. -/
def bytesV (l : List UInt8) : List Value := l.map (fun c => .int .u8 (c.toNat : Int))
theorem bytesV_snoc (l : List UInt8) (c : UInt8) : bytesV l ++ [.int .u8 (c.toNat : Int)] = bytesV (l ++ [c]) := by simp [bytesV]
theorem bytesV_length (l : List UInt8) : (bytesV l).length = l.length := by simp [bytesV]

/-- The slice v is the call's own, from block B on, and holds these bytes. -/
def OwnB (w : World) (B : Nat) (v : Value) (l : List UInt8) : Prop := w.ownsRow B 5 1 v l.length (bytesV l)

theorem own_conv {w : World} {B : Nat} {v : Value} {l : List UInt8} (h : OwnB w B v l) :
    (convert 50 9 v).run Tryd.prog w = .ok (.string ⟨l.toArray⟩) w := by
  have hown : w.ownsRow B 5 1 v l.length (bytesV l) := h
  rcases h.2 with ⟨rfl, h0⟩ | ⟨g, cap, cur, rfl, hg, hh, hnc, hcp, hcs, htake⟩
  · obtain rfl : l = [] := List.length_eq_zero_iff.1 h0
    rw [run_convert_bytes_string w 50 9 5 none 0 0 Tryd.underlying50 Tryd.underlying5 Tryd.underlying9]
    simp [Conv.bytesToString]
    rfl
  · have hcells : ∀ j (hj : j < l.length), w.cell? ((⟨g, 0, none⟩ : Addr).add j) = some (.int .u8 (l[j].toNat : Int)) := fun j hj => by
      rw [Addr.add_lit, Nat.zero_add, hown.cellAt j (by omega)]
      simp [bytesV, hj]
    exact run_convert_bytes_back (P := Tryd.prog) w 50 9 5 ⟨g, 0, none⟩ cap l Tryd.underlying50 Tryd.underlying5 Tryd.underlying9 hcells

/-- Behind an append of one byte. -/
theorem own_push {w wr w1 : World} {B : Nat} {v v' : Value} {l : List UInt8} {c : UInt8} {o : Obj} (hB : B ≤ wr.heap.size) (h : OwnB wr B v l) (hb : Below B w wr)
    (h1 : w1.ownsRow B 5 1 v' (l.length + 1) (bytesV l ++ [.int .u8 (c.toNat : Int)])) (hg : (wr.alloc o).grownBy w1 v.ownBlock) :
    OwnB w1 B v' (l ++ [c]) ∧ Below B w w1 := by
  have hown : wr.ownsRow B 5 1 v l.length (bytesV l) := h
  refine ⟨?_, (hb.alloc hB o).grown hg (by simp; omega) (fun j hj => (hown.lt j hj).1)⟩
  unfold OwnB
  rw [bytesV_snoc] at h1
  simpa using h1

theorem drop_cons (s : ByteArray) (k : Nat) (h : k < s.size) : s.data.toList.drop k = s[k] :: s.data.toList.drop (k + 1) := by
  have hl : k < s.data.toList.length := by simpa using h
  rw [List.drop_eq_getElem_cons hl]
  rfl
theorem drop_all (s : ByteArray) (k : Nat) (h : s.size ≤ k) : s.data.toList.drop k = [] := by
  apply List.drop_of_length_le
  simpa using h
/-- Numbers as cells. -/
def intsV (l : List Int) : List Value := l.map (fun c => .int .i64 c)
theorem intsV_snoc (l : List Int) (c : Int) : intsV l ++ [.int .i64 c] = intsV (l ++ [c]) := by simp [intsV]
theorem intsV_append (l r : List Int) : intsV l ++ intsV r = intsV (l ++ r) := by simp [intsV]
theorem intsV_length (l : List Int) : (intsV l).length = l.length := by simp [intsV]
/-- The slice v is the call's own, from block B on, and holds these numbers. -/
def OwnI (w : World) (B : Nat) (v : Value) (l : List Int) : Prop := w.ownsRow B 3 1 v l.length (intsV l)
/-- Behind an append of one number. -/
theorem ownI_push {w wr w1 : World} {B : Nat} {v v' : Value} {l : List Int} {c : Int} {o : Obj} (hB : B ≤ wr.heap.size) (h : OwnI wr B v l) (hb : Below B w wr)
    (h1 : w1.ownsRow B 3 1 v' (l.length + 1) (intsV l ++ [.int .i64 c])) (hg : (wr.alloc o).grownBy w1 v.ownBlock) :
    OwnI w1 B v' (l ++ [c]) ∧ Below B w w1 := by
  have hown : wr.ownsRow B 3 1 v l.length (intsV l) := h
  refine ⟨?_, (hb.alloc hB o).grown hg (by simp; omega) (fun j hj => (hown.lt j hj).1)⟩
  unfold OwnI
  rw [intsV_snoc] at h1
  simpa using h1
/-- An own slice, its cells told one by one. -/
theorem ownI_cells {w : World} {B : Nat} {v : Value} {l : List Int} (h : OwnI w B v l) : ∃ a cap, v = .slice a l.length cap ∧ (0 < l.length → ∃ g, a = some ⟨g, 0, none⟩ ∧ g < w.heap.size ∧ ∀ j (hj : j < l.length), w.cell? ⟨g, j, none⟩ = some (.int .i64 l[j])) := by
  have hown : w.ownsRow B 3 1 v l.length (intsV l) := h
  rcases h.2 with ⟨rfl, h0⟩ | ⟨g, cap, cur, rfl, hg, hh, hnc, hcp, hcs, htake⟩
  · exact ⟨none, 0, by rw [h0], fun h => by omega⟩
  · refine ⟨_, _, rfl, fun h => ⟨g, rfl, (hown.lt g rfl).2, fun j hj => ?_⟩⟩
    rw [hown.cellAt j (by omega)]
    simp [intsV, hj]

/-- The value v is a slice of these numbers. -/
def IntS (w : World) (v : Value) (xs : List Int) : Prop :=
  ∃ a cap, v = .slice a xs.length cap ∧ xs.length ≤ cap ∧ cap ≤ 9223372036854775807 ∧ (0 < xs.length → ∃ g o, a = some ⟨g, o, none⟩ ∧ g < w.heap.size ∧ ∀ j (_ : j < xs.length), w.cell? ⟨g, o + j, none⟩ = some (.int .i64 xs[j]))
theorem IntS.below {w w' : World} {B : Nat} {v : Value} {xs : List Int} (h : IntS w v xs) (hb : Below B w w') (hB : w.heap.size ≤ B) : IntS w' v xs := by
  obtain ⟨a, cap, h1, h2, h3, h4⟩ := h
  refine ⟨a, cap, h1, h2, h3, fun h0 => ?_⟩
  obtain ⟨g, o, h5, h6, h7⟩ := h4 h0
  exact ⟨g, o, h5, Nat.lt_of_lt_of_le h6 hb.size, fun j hj => (hb.cell (p := ⟨g, o + j, none⟩) (Nat.lt_of_lt_of_le h6 hB)).trans (h7 j hj)⟩
theorem belowN {B : Nat} {a w : World} (h : Below B a w) (n : Nat) : Below B a (w.drewN n) := h.trans ⟨rfl, rfl, rfl, Nat.le_refl _, fun _ _ => rfl⟩
theorem take_eq_snoc {xs ys : List Int} {k : Nat} (h1 : k < xs.length) (h2 : k < ys.length) (h : xs.take k = ys.take k) (e : xs[k] = ys[k]) : xs.take (k + 1) = ys.take (k + 1) := by
  rw [List.take_succ_eq_append_getElem h1, List.take_succ_eq_append_getElem h2, h, e]

set_option maxRecDepth 100000 in
set_option maxHeartbeats 1000000 in
/-- Whether two lists of numbers are alike. -/
theorem numbers_any (w : World) (u v : Value) (xs ys : List Int) (hu : IntS w u xs) (hv : IntS w v ys) (hx : xs.length ≤ 9223372036854775807) (_hy : ys.length ≤ 9223372036854775807) :
    Calls Tryd.prog 14 #[u, v] w fun e' w' => e' = .returned (.bool (decide (xs = ys))) ∧ Below w.heap.size w w' := by
  obtain ⟨a, cap, rfl, _, _, hu⟩ := hu
  obtain ⟨a', cap', rfl, _, _, hv⟩ := hv
  have HU := Lib.hid hu
  have HV := Lib.hid hv
  clear hu hv
  by_cases hl : xs.length = ys.length
  · obtain ⟨n, hn⟩ : ∃ n, n = xs.length := ⟨_, rfl⟩
    have hn2 : ys.length = n := by omega
    have HN := Lib.hid hn
    have HN2 := Lib.hid hn2
    rw [← hn] at hx ⊢
    rw [hn2]
    clear hl hn hn2
    go_enter Tryd.func14, Tryd.ntmps14
    go_wp2_with fail
    go_loopg [5] n (fun g i wx => ∃ k : Nat, k ≤ n ∧ g = n - k ∧ i = .int .i64 k ∧ Hid (xs.take k = ys.take k) ∧ Below w.heap.size w wx)
    case atStart => exact ⟨0, Nat.zero_le _, rfl, rfl, by show _ = _; rw [List.take_zero, List.take_zero], Below.refl _ _⟩
    case round =>
      obtain ⟨k, hk, rfl, rfl, hS, hbel⟩ := hrel
      by_cases hkn : k < n
      · have i1 : (k : Int) < (n : Int) := by omega
        have kx : k < xs.length := by rw [← HN.out]; exact hkn
        have ky : k < ys.length := by rw [HN2.out]; exact hkn
        obtain ⟨g, o, rfl, hg, hcu⟩ := HU.out (by omega)
        obtain ⟨g', o', rfl, hg', hcv⟩ := HV.out (by omega)
        have c1 : wr.cell? ⟨g, o + k, none⟩ = some (.int .i64 xs[k]) := (hbel.cell (p := ⟨g, o + k, none⟩) hg).trans (hcu k kx)
        have c2 : wr.cell? ⟨g', o' + k, none⟩ = some (.int .i64 ys[k]) := (hbel.cell (p := ⟨g', o' + k, none⟩) hg').trans (hcv k ky)
        have HBE := Lib.hid hbel
        by_cases he : xs[k] = ys[k]
        · have hst : Hid (xs.take (k + 1) = ys.take (k + 1)) := take_eq_snoc kx ky hS.out he
          have he' : (xs[k] != ys[k]) = false := by simpa using he
          clear hS he hcu hcv hbel
          generalize xs[k] = x at *
          generalize ys[k] = y at *
          go_wp2_with fail
          go_quiet (fail)
          go_wp2_with fail
          go_roundg (n - (k + 1))
          case rel => exact ⟨k + 1, by omega, rfl, by go_num, hst, by first | exact HBE.out | exact belowN HBE.out _⟩
          case measure => omega
        · have hfin : Hid (decide (xs = ys) = false) := decide_eq_false (fun h => he (by subst h; rfl))
          have he' : (xs[k] != ys[k]) = true := by simpa using he
          clear hS he hcu hcv hbel
          generalize xs[k] = x at *
          generalize ys[k] = y at *
          go_wp2_with fail
          go_quiet (fail)
          go_wp2_with fail
          go_ret
          exact ⟨by rw [hfin.out]; rfl, by first | exact HBE.out | exact belowN HBE.out _⟩
      · have hfin : Hid (decide (xs = ys) = true) := by
          obtain rfl : k = n := by omega
          have h := hS.out
          rw [List.take_of_length_le (by rw [← HN.out]; exact Nat.le_refl _), List.take_of_length_le (by rw [HN2.out]; exact Nat.le_refl _)] at h
          exact decide_eq_true h
        have HBE := Lib.hid hbel
        clear hS hbel
        go_wp2_with fail
        go_ret
        exact ⟨by rw [hfin.out]; rfl, HBE.out⟩
  · have hfin : Hid (decide (xs = ys) = false) := decide_eq_false (fun h => hl (by rw [h]))
    have hl' : ((xs.length : Int) != (ys.length : Int)) = true := by simp; omega
    go_enter Tryd.func14, Tryd.ntmps14
    go_wp2_with fail
    go_ret
    exact ⟨by rw [hfin.out]; rfl, Below.refl _ _⟩
theorem OwnI.ints {w : World} {B : Nat} {v : Value} {l : List Int} (h : OwnI w B v l) (_ : l.length ≤ 140737488355328) : IntS w v l := by
  rcases h.2 with ⟨rfl, h0⟩ | ⟨g, cap, cur, rfl, hg, hh, hnc, hcp, hcs, htake⟩
  · exact ⟨none, 0, by rw [h0], by omega, by omega, fun h => by omega⟩
  · have hown : w.ownsRow B 3 1 (.slice (some ⟨g, 0, none⟩) l.length cap) l.length (intsV l) := h
    refine ⟨_, cap, rfl, hnc, by unfold maxLen at hcp; omega, fun h => ⟨g, 0, rfl, (hown.lt g rfl).2, fun j hj => ?_⟩⟩
    rw [Nat.zero_add, hown.cellAt j (by omega)]
    simp [intsV, hj]
/-- Behind an append of numbers that lie elsewhere. -/
theorem ownI_pushAll {w wr w1 : World} {B : Nat} {v v' : Value} {l r : List Int} (hB : B ≤ wr.heap.size) (h : OwnI wr B v l) (hb : Below B w wr)
    (h1 : w1.ownsRow B 3 1 v' (l.length + r.length) (intsV l ++ intsV r)) (hg : wr.grownBy w1 v.ownBlock) :
    OwnI w1 B v' (l ++ r) ∧ Below B w w1 := by
  have hown : wr.ownsRow B 3 1 v l.length (intsV l) := h
  refine ⟨?_, hb.grown hg hB (fun j hj => (hown.lt j hj).1)⟩
  unfold OwnI
  rw [intsV_append] at h1
  simpa using h1
theorem OwnI.keep {w w' : World} {B B' : Nat} {v : Value} {l : List Int} (h : OwnI w B v l) (hb : Below B' w w') (hB : w.heap.size ≤ B') : OwnI w' B v l := by
  have hown : w.ownsRow B 3 1 v l.length (intsV l) := h
  refine ⟨h.1, ?_⟩
  rcases h.2 with ⟨h1, h2⟩ | ⟨g, cap, cur, h1, hg, hh, hnc, hcp, hcs, htake⟩
  · exact .inl ⟨h1, h2⟩
  · have hlt : g < w.heap.size := (hown.lt g (by rw [h1]; rfl)).2
    exact .inr ⟨g, cap, cur, h1, hg, (hb.block g (Nat.lt_of_lt_of_le hlt hB)).trans hh, hnc, hcp, hcs, htake⟩
theorem chain_d {w w2 w3 : World} (h : Below w.heap.size w w2) (hb : Below w2.drew.heap.size w2.drew w3) : Below w.heap.size w w3 := by
  have h1 : Below w2.heap.size w2 w3 := (Below.refl w2.heap.size w2).drew.trans hb
  exact h.trans (h1.mono h.size)
/-- A slice that a call has just laid. -/
theorem ints_lit (w : World) (zs : List Int) (h0 : zs.length ≤ 9223372036854775807) : IntS (w.alloc (.cells (intsV zs).toArray 3)) (.slice (some ⟨w.heap.size, 0, none⟩) zs.length zs.length) zs := by
  refine ⟨_, zs.length, rfl, Nat.le_refl _, h0, fun _ => ⟨w.heap.size, 0, rfl, by simp, fun j hj => ?_⟩⟩
  rw [Nat.zero_add, World.cell?_alloc_at _ _ _ _ rfl]
  simp [intsV, hj]
/-- Numbers that a word holds. -/
def Wf (zs : List Int) : Prop := ∀ z ∈ zs, -9223372036854775808 ≤ z ∧ z ≤ 9223372036854775807
theorem ownI_old {w wr w1 : World} {B : Nat} {v v' : Value} {r : List Int} (hB : B ≤ wr.heap.size) (hown : wr.ownsRow B 3 1 v 0 []) (hb : Below B w wr)
    (h1 : w1.ownsRow B 3 1 v' (0 + r.length) ([] ++ intsV r)) (hg : wr.grownBy w1 v.ownBlock) :
    OwnI w1 B v' r ∧ Below B w w1 := by
  refine ⟨?_, hb.grown hg hB (fun j hj => (hown.lt j hj).1)⟩
  unfold OwnI
  simpa using h1

theorem news_77 (w1 : World) : ∀ j u, [Value.int .i64 77][j]? = some u → (w1.alloc (.cells #[.int .i64 77] 3)).cell? ((⟨w1.heap.size, 0, none⟩ : Addr).add j) = some u := by
  intro j u hj
  match j, hj with
  | 0, hj => simp at hj; subst hj; simp [Addr.add]
theorem one_77 : ∀ u ∈ [Value.int .i64 77], u.oneCell' = true := by
  intro u hu
  simp at hu
  subst hu
  rfl
/-- A list with one number more behind it: the slice of the list, and the number. -/
theorem in_split {w : World} {B : Nat} {v : Value} {zs : List Int} {c : Int} (h : OwnI w B v (zs ++ [c])) : ∃ g cap, v = .slice (some ⟨g, 0, none⟩) (zs.length + 1) cap ∧ zs.length + 1 ≤ cap ∧ cap ≤ 9223372036854775807 ∧ g < w.heap.size ∧ w.cell? ⟨g, zs.length, none⟩ = some (.int .i64 c) ∧ IntS w (.slice (some ⟨g, 0, none⟩) zs.length cap) zs := by
  have hl : (zs ++ [c]).length = zs.length + 1 := by simp
  rcases h.2 with ⟨h1, h2⟩ | ⟨g, cap, cur, rfl, hg, hh, hnc, hcp, hcs, htake⟩
  · omega
  · have hown : w.ownsRow B 3 1 (.slice (some ⟨g, 0, none⟩) (zs ++ [c]).length cap) (zs ++ [c]).length (intsV (zs ++ [c])) := h
    unfold maxLen at hcp
    have hcell : ∀ j (hj : j < (zs ++ [c]).length), w.cell? ⟨g, j, none⟩ = some (.int .i64 (zs ++ [c])[j]) := fun j hj => by
      rw [hown.cellAt j (by omega)]
      show (intsV (zs ++ [c]))[j]? = _
      unfold intsV
      rw [List.getElem?_map, List.getElem?_eq_getElem hj]
      rfl
    refine ⟨g, cap, by rw [hl], by omega, by omega, (hown.lt g rfl).2, ?_, ⟨_, cap, rfl, by omega, by omega, fun _ => ⟨g, 0, rfl, (hown.lt g rfl).2, fun j hj => ?_⟩⟩⟩
    · rw [hcell zs.length (by omega)]
      simp
    · rw [Nat.zero_add, hcell j (by omega), List.getElem_append_left hj]


end Go.Proofs.YtedloedfbegbkaaDoor
