/-
  What rowOf answers: a row in a new block.
-/
import Derived.Test.YtmpjhbbcfnffhaaYe
import Derived.Test.YtmpjhbbcfnffhaaUe
import Derived.RegionTactic
import Derived.BigRegion
namespace Go.Proofs.Ytmpjhbbcfnffhaa
open Go.RowKit

namespace Sp
/-- The cell j of a row. -/
def cellAt (r : List (Int × Int)) (j : Nat) : Int := if j % 2 = 0 then (r.getD (j / 2) (0, 0)).1 else (r.getD (j / 2) (0, 0)).2
theorem cellAt_lo (r : List (Int × Int)) (k : Nat) (h : k < r.length) : cellAt r (k * 2) = r[k].1 := by
  unfold cellAt
  rw [if_pos (by omega), show k * 2 / 2 = k by omega]
  simp [List.getD, h]
theorem cellAt_hi (r : List (Int × Int)) (k : Nat) (h : k < r.length) : cellAt r (k * 2 + 1) = r[k].2 := by
  unfold cellAt
  rw [if_neg (by omega), show (k * 2 + 1) / 2 = k by omega]
  simp [List.getD, h]
/-- The cell j of a row of which k ranges are told. -/
def cellUpto (r : List (Int × Int)) (k j : Nat) : Int := if j < k * 2 then cellAt r j else 0
theorem cellUpto_set (r : List (Int × Int)) (k : Nat) (h : k < r.length) (j : Nat) : (if j = k * 2 + 1 then Value.int .i64 r[k].2 else if j = k * 2 then Value.int .i64 r[k].1 else .int .i64 (cellUpto r k j)) = .int .i64 (cellUpto r (k + 1) j) := by
  have h1 := cellAt_lo r k h
  have h2 := cellAt_hi r k h
  unfold cellUpto
  by_cases e1 : j = k * 2 + 1
  · subst e1
    rw [if_pos rfl, if_pos (by omega), h2]
  · rw [if_neg e1]
    by_cases e2 : j = k * 2
    · subst e2
      rw [if_pos rfl, if_pos (by omega), h1]
    · rw [if_neg e2]
      by_cases e3 : j < k * 2
      · rw [if_pos e3, if_pos (by omega)]
      · rw [if_neg e3, if_neg (by omega)]
theorem good_whole {f l : Int} {tails t : Nat} {a b : Int} (hk : InCut f l tails) (h : Good f l tails t a b) : Ut.whole a = true ∧ Ut.whole b = true ∧ (Lib.encodeRuneZ a).length = tails + 1 ∧ (Lib.encodeRuneZ b).length = tails + 1 := by
  have h1 := h.lo
  have h2 := h.hi
  have h3 := h.le
  rw [Ut.whole_iff, Ut.whole_iff]
  cases hk
  · rw [Lib.encodeRuneZ_one (by omega) (by omega), Lib.encodeRuneZ_one (by omega) (by omega)]
    exact ⟨by omega, by omega, rfl, rfl⟩
  · rw [Lib.encodeRuneZ_two (by omega) (by omega), Lib.encodeRuneZ_two (by omega) (by omega)]
    exact ⟨by omega, by omega, rfl, rfl⟩
  · rw [Lib.encodeRuneZ_three (by omega), Lib.encodeRuneZ_three (by omega)]
    exact ⟨by omega, by omega, rfl, rfl⟩
  · rw [Lib.encodeRuneZ_three (by omega), Lib.encodeRuneZ_three (by omega)]
    exact ⟨by omega, by omega, rfl, rfl⟩
  · rw [Lib.encodeRuneZ_four (by omega) (by omega), Lib.encodeRuneZ_four (by omega) (by omega)]
    exact ⟨by omega, by omega, rfl, rfl⟩
/-- The text of one character. -/
def txt (c : Int) : ByteArray := ⟨(Ut.encS [c]).toArray⟩
theorem encS_one {c : Int} (h : Ut.whole c = true) : Ut.encS [c] = Lib.encodeRune c := by
  rw [Ut.encS_yes (by simp [Ut.allW, h])]
  simp [Ut.enc]
theorem txt_size {c : Int} (h : Ut.whole c = true) : (txt c).size = (Lib.encodeRuneZ c).length := by
  show (Ut.encS [c]).toArray.size = _
  rw [encS_one h, List.size_toArray]
  unfold Lib.encodeRune
  rw [List.length_map]
theorem txt_at {c : Int} (h : Ut.whole c = true) (k : Nat) (hk : k < (txt c).size) (hk2 : k < (Lib.encodeRuneZ c).length) : (((txt c)[k]).toNat : Int) = (Lib.encodeRuneZ c)[k] := by
  have hb := Lib.encodeRuneZ_byte c _ (List.getElem_mem hk2)
  have e : (txt c)[k] = ((Lib.encodeRuneZ c)[k]).toNat.toUInt8 := by
    have : (txt c)[k] = (Ut.encS [c])[k]'(by have : (txt c).size = (Ut.encS [c]).length := List.size_toArray; omega) := rfl
    rw [this]
    simp only [encS_one h]
    unfold Lib.encodeRune
    rw [List.getElem_map]
  rw [e]
  exact Ut.byteI _ hb.1 hb.2
end Sp
theorem Try.infoR : (Try.prog.info? 26).map (fun i => (i.zero, i.size, i.bytes)) = some (some (.agg #[.int .i64 0, .int .i64 0]), 2, 16) := by kernel_rfl
/-- The block g is this row. -/
def RowG (w : World) (g : Nat) (r : List (Int × Int)) : Prop := w.rowIs g 26 (r.length * 2) (fun j => .int .i64 (Sp.cellAt r j))
theorem makeR (n : Nat) (hn : n ≤ 1000) (w : World) :
    (Instr.makeSlice 24 (.int .i64 (n : Int)) (.int .i64 (n : Int))).run Try.prog w = .ok (.slice (some ⟨w.heap.size, 0, none⟩) n n) (w.alloc (.cells (madeCells #[.int .i64 0, .int .i64 0] (n * 2)) 26)) := by
  obtain ⟨ii, hi, hz0, hz1, hz2⟩ := info_parts Try.infoR
  have h := run_make (P := Try.prog) w 24 26 ii _ Try.underlying24 hi hz0 .i64 .i64 (n : Int) (n : Int) (by omega) (by omega) (by rw [hz2]; omega) (by omega)
  rw [hz1, Int.toNat_natCast] at h
  exact h
theorem madeR (w : World) (n : Nat) (r : List (Int × Int)) : (w.alloc (.cells (madeCells #[.int .i64 0, .int .i64 0] (n * 2)) 26)).rowIs w.heap.size 26 (n * 2) (fun j => .int .i64 (Sp.cellUpto r 0 j)) := by
  refine ⟨_, Go.Deep.blk_alloc_new _ _, by rw [size_madeCells], fun i hi => ?_⟩
  have : i % 2 = 0 ∨ i % 2 = 1 := by omega
  rcases this with h | h <;> simp [madeCells, Sp.cellUpto, h, hi]

set_option maxRecDepth 100000 in
set_option maxHeartbeats 2000000 in
theorem rowOf_any (a b f l : Int) (tails t : Nat) (hk : Sp.InCut f l tails) (hgd : Sp.Good f l tails t a b) (w : World) :
    Calls Try.prog 15 #[.int .i64 a, .int .i64 b] w fun e w' => ∃ g, e = .returned (.slice (some ⟨g, 0, none⟩) (tails + 1) (tails + 1)) ∧ w.heap.size ≤ g ∧ RowG w' g (Sp.rowOf (a, b)) ∧ Below w.heap.size w w' := by
  obtain ⟨ha, hb, la, lb⟩ := Sp.good_whole hk hgd
  obtain ⟨h3, _⟩ := Sp.cut_small hk
  have sa := Sp.txt_size ha
  have sb := Sp.txt_size hb
  have lr : (Sp.rowOf (a, b)).length = tails + 1 := by unfold Sp.rowOf; rw [List.length_zip, la, lb]; simp
  have hat : ∀ k (h1 : k < (Sp.txt a).size) (h2 : k < (Sp.rowOf (a, b)).length), (((Sp.txt a)[k]).toNat : Int) = (Sp.rowOf (a, b))[k].1 := fun k h1 h2 => by
    rw [Sp.txt_at ha k h1 (by omega)]
    simp [Sp.rowOf]
  have hbt : ∀ k (h1 : k < (Sp.txt b).size) (h2 : k < (Sp.rowOf (a, b)).length), (((Sp.txt b)[k]).toNat : Int) = (Sp.rowOf (a, b))[k].2 := fun k h1 h2 => by
    rw [Sp.txt_at hb k h1 (by omega)]
    simp [Sp.rowOf]
  rw [la] at sa
  rw [lb] at sb
  have H1 : Hid (∀ w : World, Calls Try.prog 22 #[.slice (some ⟨w.heap.size, 0, none⟩) 1 1] (w.alloc (.cells #[.int .i64 a] 3)) fun e w' => e = .returned (.tuple #[.string (Sp.txt a), .int .i64 (Ut.encE [a])]) ∧ Below (w.alloc (.cells #[.int .i64 a] 3)).heap.size (w.alloc (.cells #[.int .i64 a] 3)) w') := fun w => encode_any _ _ [a] (ints_lit w [a] (by simp)) (by simp)
  have H2 : Hid (∀ w : World, Calls Try.prog 22 #[.slice (some ⟨w.heap.size, 0, none⟩) 1 1] (w.alloc (.cells #[.int .i64 b] 3)) fun e w' => e = .returned (.tuple #[.string (Sp.txt b), .int .i64 (Ut.encE [b])]) ∧ Below (w.alloc (.cells #[.int .i64 b] 3)).heap.size (w.alloc (.cells #[.int .i64 b] 3)) w') := fun w => encode_any _ _ [b] (ints_lit w [b] (by simp)) (by simp)
  have HAT := Lib.hid hat
  have HBT := Lib.hid hbt
  have HSA := Lib.hid sa
  have HSB := Lib.hid sb
  have HLR := Lib.hid lr
  generalize Sp.rowOf (a, b) = r at *
  generalize Sp.txt a = s1 at *
  generalize Sp.txt b = s2 at *
  generalize Ut.encE [a] = e1 at *
  generalize Ut.encE [b] = e2 at *
  obtain ⟨n, hn⟩ : ∃ n, n = tails + 1 := ⟨_, rfl⟩
  have hn4 : n ≤ 4 := by omega
  rw [← hn] at sa sb ⊢
  have HN := Lib.hid hn
  clear hat hbt lr hgd hk ha hb la lb hn h3
  have hmk := makeR n (by omega)
  go_enter Try.func15, Try.ntmps15
  go_wp2_with fail
  refine (H1.out w).mono ?_
  rintro e w1 ⟨rfl, hb1⟩
  have HB1 : Hid (Below w.heap.size w w1) := ((Below.refl _ _).alloc (Nat.le_refl _) _).trans (hb1.mono (by simp))
  clear hb1
  go_wp2_with fail
  refine (H2.out w1).mono ?_
  rintro e w2 ⟨rfl, hb2⟩
  have HB2 : Hid (Below w.heap.size w w2) := HB1.out.trans (((Below.refl _ _).alloc (Nat.le_refl _) _).trans (hb2.mono (by simp)) |>.mono HB1.out.size)
  clear hb2 HB1
  go_wp2_with fail
  have hst : Hid ((w2.alloc (.cells (madeCells #[.int .i64 0, .int .i64 0] (n * 2)) 26)).rowIs w2.heap.size 26 (n * 2) (fun j => .int .i64 (Sp.cellUpto r 0 j))) := madeR w2 n r
  have HB3 : Hid (Below w.heap.size w (w2.alloc (.cells (madeCells #[.int .i64 0, .int .i64 0] (n * 2)) 26))) := HB2.out.alloc HB2.out.size _
  obtain ⟨G, hG⟩ : ∃ G, G = w2.heap.size := ⟨_, rfl⟩
  have HG : Hid (w.heap.size ≤ G) := by show _ ≤ _; rw [hG]; exact HB2.out.size
  rw [← hG] at hst ⊢
  clear hG hmk
  generalize w2.alloc (.cells (madeCells #[.int .i64 0, .int .i64 0] (n * 2)) 26) = w3 at *
  go_loopg [28] n (fun g i wx => ∃ k : Nat, k ≤ n ∧ g = n - k ∧ i = .int .i64 k ∧ Hid (wx.rowIs G 26 (n * 2) (fun j => .int .i64 (Sp.cellUpto r k j))) ∧ Hid (Below w.heap.size w wx))
  case atStart => exact ⟨0, Nat.zero_le _, rfl, rfl, hst, HB3⟩
  case round =>
    obtain ⟨k, hkn, rfl, rfl, hrow, hbel⟩ := hrel
    by_cases hlt : k < n
    · have i1 : (k : Int) < (n : Int) := by omega
      have k1 : k < s1.size := by omega
      have k2 : k < s2.size := by omega
      have kr : k < r.length := by have := HLR.out; have := HN.out; omega
      have x1 := HAT.out k k1 kr
      have x2 := HBT.out k k2 kr
      have y1 : 0 ≤ r[k].1 := by omega
      have y2 : r[k].1 ≤ 255 := by have := (s1[k]).toNat_lt; omega
      have y3 : 0 ≤ r[k].2 := by omega
      have y4 : r[k].2 ≤ 255 := by have := (s2[k]).toNat_lt; omega
      have c1 := hrow.out.cell (i := k * 2) (by omega)
      have c2 := hrow.out.cell (i := k * 2 + 1) (by omega)
      have f1 := hrow.out.frozen (k * 2)
      have f2 := hrow.out.frozen (k * 2 + 1)
      go_wp2_with fail
      go_region
      go_wp2_with fail
      go_roundg (n - (k + 1))
      case rel =>
        have R1 : Hid (((wr.setCell ⟨G, k * 2, none⟩ (.int .i64 r[k].1)).setCell ⟨G, k * 2 + 1, none⟩ (.int .i64 r[k].2)).drew.rowIs G 26 (n * 2) (fun j => .int .i64 (Sp.cellUpto r (k + 1) j))) :=
          (((hrow.out.set (k * 2) (.int .i64 r[k].1)).set (k * 2 + 1) (.int .i64 r[k].2)).congr fun j _ => Sp.cellUpto_set r k kr j).drew
        have R2 : Hid (Below w.heap.size w ((wr.setCell ⟨G, k * 2, none⟩ (.int .i64 r[k].1)).setCell ⟨G, k * 2 + 1, none⟩ (.int .i64 r[k].2)).drew) := ((hbel.out.setCell HG.out _).setCell HG.out _).drew
        exact ⟨k + 1, by omega, rfl, by go_num, R1, R2⟩
      case measure => omega
    · obtain rfl : k = n := by omega
      go_wp2_with fail
      go_ret
      have e := HN.out
      subst e
      refine ⟨G, rfl, HG.out, ?_, hbel.out⟩
      unfold RowG
      rw [HLR.out]
      exact hrow.out.congr fun j hj => by simp only [Sp.cellUpto, if_pos hj]
end Go.Proofs.Ytmpjhbbcfnffhaa
