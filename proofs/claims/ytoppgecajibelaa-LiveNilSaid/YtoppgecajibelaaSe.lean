/-
  The document's sets: Pack.
-/
import Derived.Test.YtoppgecajibelaaSd
import Derived.Deep.RegionHeld3
namespace Go.Proofs.Ytoppgecajibelaa
open Go.RowKit
namespace Ls
def pw (j : Nat) : Nat := 2 ^ j
theorem pw_zero : pw 0 = 1 := rfl
theorem pw_succ (j : Nat) : pw (j + 1) = 2 * pw j := by unfold pw; rw [Nat.pow_succ]; omega
theorem pw_lt {j : Nat} (h : j < 8) : pw j ≤ 128 := by
  unfold pw
  exact Nat.le_trans (Nat.pow_le_pow_right (by omega) (show j ≤ 7 by omega)) (by decide)
theorem not_ahead {G : List Nat} (h : G.Nodup) (k : Nat) (hk : k < G.length) : G[k] ∉ G.take k := by
  intro q
  have h2 := h
  rw [← List.take_append_drop k G, List.drop_eq_getElem_cons hk, List.nodup_append] at h2
  exact h2.2.2 _ q _ (List.mem_cons_self ..) rfl
theorem take_nodup {G : List Nat} (h : G.Nodup) (k : Nat) : (G.take k).Nodup := h.sublist (List.take_sublist k G)
end Ls
/-- A row of bytes. -/
def RowU (w : World) (g n : Nat) (f : Nat → Nat) : Prop := w.rowIs g 5 n (fun j => .int .u8 ((f j : Nat) : Int))
theorem RowU.own {w : World} {B g n : Nat} {f : Nat → Nat} (h : RowU w g n f) (hf : ∀ j, f j < 256) (hB : B ≤ g) (hn : n ≤ 1099511627776) : OwnB w B (.slice (some ⟨g, 0, none⟩) n n) ((List.range n).map fun j => UInt8.ofNat (f j)) := by
  obtain ⟨c, h1, h2, h3⟩ := id h
  have hl : ((List.range n).map fun j => UInt8.ofNat (f j)).length = n := by simp
  unfold OwnB
  rw [hl]
  refine ⟨by rw [bytesV_length, hl, Nat.mul_one], .inr ⟨g, n, c, rfl, hB, h1, Nat.le_refl _, by unfold maxLen; omega, by omega, ?_⟩⟩
  rw [Nat.mul_one]
  apply List.ext_getElem?
  intro i
  by_cases hi : i < n
  · rw [List.getElem?_take_of_lt hi, Array.getElem?_toList, h3 i hi]
    have e : (UInt8.ofNat (f i)).toNat = f i := by have := hf i; simp; omega
    simp [bytesV, hi]
    have := hf i
    omega
  · rw [List.getElem?_eq_none (by simp; omega), List.getElem?_eq_none (by rw [bytesV_length, hl]; omega)]
set_option maxRecDepth 100000 in
set_option maxHeartbeats 4000000 in
/-- Pack. -/
theorem packS_any (w : World) (B p n : Nat) (G : List Nat) (v : Value) (h : RefS w B p n G v) :
    Calls Try.prog 18 #[.pointer (some ⟨p, 0, none⟩)] w (StrPost w.heap.size w (Ls.pack n G)) := by
  have H := Lib.hid h
  obtain ⟨g, a, cap, rfl, q1, q2, q3, _, _, q4, _⟩ := h.own.opened
  have hlim := h.lim
  have hok := Lib.hid h.ok
  rw [List.length_map] at q1 q3 H
  obtain ⟨m, hm⟩ : ∃ m, m = G.length := ⟨_, rfl⟩
  have hml : m ≤ 1048576 := by rw [hm]; have := h.ok.len; omega
  have HM := Lib.hid hm
  have HQ := Lib.hid q4
  have HA := Lib.hid q3
  rw [← hm] at q1 H
  obtain ⟨c0, c1, _⟩ := set_box H.out.box
  obtain ⟨q, hq⟩ : ∃ q, q = (n + 7) / 8 := ⟨_, rfl⟩
  have hql : q ≤ 131072 := by omega
  have HQN := Lib.hid hq
  have hmk := run_make_row' (P := Try.prog) 47 5 (.int .u8 0) 1 Try.underlying47 Try.infoB rfl .i64 .i64 q (by omega) (by omega)
  have f1 : IntKind.i64.wrap ((n : Int) + 7) = (n : Int) + 7 := IntWalk.i64_in _ (by omega)
  have f2 : ((n : Int) + 7).tdiv 8 = (q : Int) := by rw [Int.tdiv_eq_ediv_of_nonneg (by omega), hq]; omega
  have hR0 : Hid (RowU (w.alloc (.cells (madeCells #[.int .u8 0] q) 5)) w.heap.size q (Ls.cel (Ls.val (G.take 0)))) := by
    show World.rowIs _ _ _ _ _
    exact (World.rowIs_made w (.int .u8 0) q 5).congr fun j _ => by simp [Ls.val, Ls.cel]
  have hB0 : Hid (Below w.heap.size w (w.alloc (.cells (madeCells #[.int .u8 0] q) 5))) := (Below.refl _ _).alloc (Nat.le_refl _) _
  have HP : Hid (p < w.heap.size) := blk_lt H.out.box
  clear h q3 q4 hm hq
  go_enter Try.func18, Try.ntmps18
  go_wp2_with fail
  go_loopg [4] m (fun g' i wx => ∃ k : Nat, k ≤ m ∧ g' = m - k ∧ i = .int .i64 k ∧ Hid (RowU wx w.heap.size q (Ls.cel (Ls.val (G.take k)))) ∧ Hid (Below w.heap.size w wx))
  case atStart => exact ⟨0, Nat.zero_le _, rfl, rfl, hR0, hB0⟩
  case round =>
    clear hR0 hB0 hmk f1 f2
    obtain ⟨k, hk, rfl, rfl, HR, HB⟩ := hrel
    have e0 := (HB.out.cell (p := ⟨p, 0, none⟩) HP.out).trans c0
    have e1 := (HB.out.cell (p := ⟨p, 1, none⟩) HP.out).trans c1
    by_cases hkm : k < m
    · have i2 : (k : Int) < (m : Int) := by omega
      have kG : k < G.length := by rw [← HM.out]; exact hkm
      obtain ⟨rfl, gl⟩ := HA.out (by omega)
      have c2 := HQ.out k (by rw [List.length_map]; exact kG)
      rw [List.getElem_map] at c2
      have hd := hok.out.lt _ (List.getElem_mem kG)
      have hbit : Hid ((Ls.val (G.take k)).testBit G[k] = false) := by
        show _ = _
        rw [Ls.val_bit (Ls.take_nodup hok.out.nd k), decide_eq_false (Ls.not_ahead hok.out.nd k kG)]
      have hval : Hid (Ls.val (G.take (k + 1)) = Ls.val (G.take k) + 2 ^ G[k]) := by
        show _ = _
        rw [List.take_succ_eq_append_getElem kG, Ls.val_snoc]
      generalize G[k] = d at *
      replace c2 : w.cell? ⟨g, k, none⟩ = some (.int .i64 (d : Int)) := c2
      have e2 := (HB.out.cell (p := ⟨g, k, none⟩) gl).trans c2
      obtain ⟨r, hr⟩ : ∃ r, r = d % 8 := ⟨_, rfl⟩
      obtain ⟨dq, hdq⟩ : ∃ dq, dq = d / 8 := ⟨_, rfl⟩
      have hr8 : r < 8 := by omega
      have hdq2 : dq < q := by have := HQN.out; omega
      have t1 : (d : Int).tmod 8 = (r : Int) := by rw [Int.tmod_eq_emod_of_nonneg (by omega), hr]; omega
      have t2 : (d : Int).tdiv 8 = (dq : Int) := by rw [Int.tdiv_eq_ediv_of_nonneg (by omega), hdq]; omega
      have hcel : Hid (∀ j, Ls.cel (Ls.val (G.take (k + 1))) j = if j = dq then Ls.cel (Ls.val (G.take k)) j + Ls.pw r else Ls.cel (Ls.val (G.take k)) j) := fun j => by
        rw [hval.out, Ls.cel_add hbit.out, hdq, hr]
        rfl
      clear hr hdq hval hbit c2
      go_wp2_with fail
      go_loopg [6, 7] r (fun g' wv jv wx => ∃ j : Nat, j ≤ r ∧ g' = r - j ∧ jv = .int .i64 j ∧ wv = .int .i64 ((Ls.pw j : Nat) : Int) ∧ wx = wr)
      case atStart => exact ⟨0, Nat.zero_le _, rfl, rfl, rfl, rfl⟩
      case round =>
        obtain ⟨j, hj, rfl, rfl, rfl, rfl⟩ := hrel
        by_cases hjr : j < r
        · have j2 : (j : Int) < (r : Int) := by omega
          have u1 : IntKind.i64.wrap (2 * ((Ls.pw j : Nat) : Int)) = ((Ls.pw (j + 1) : Nat) : Int) := by
            have := Ls.pw_lt (show j < 8 by omega)
            rw [Ls.pw_succ]
            rw [IntWalk.i64_in _ (by omega)]
            omega
          go_wp2_with fail
          go_roundg (r - (j + 1))
          case rel => exact ⟨j + 1, by omega, rfl, by go_num, rfl, rfl⟩
          case measure => omega
        · obtain rfl : j = r := by omega
          obtain ⟨y, hy⟩ : ∃ y, y = Ls.pw j := ⟨_, rfl⟩
          have hy8 : y ≤ 128 := by rw [hy]; exact Ls.pw_lt (by omega)
          obtain ⟨c, hc⟩ : ∃ c, c = Ls.cel (Ls.val (G.take k)) dq := ⟨_, rfl⟩
          have hcy : c + y < 256 := by
            have h1 := hcel.out dq
            rw [if_pos rfl, ← hy, ← hc] at h1
            have := Ls.cel_lt (Ls.val (G.take (k + 1))) dq
            omega
          have y1 : wr.cell? ⟨w.heap.size, dq, none⟩ = some (.int .u8 (c : Int)) := by rw [hc]; exact World.rowIs.cell HR.out hdq2
          have y2 : wr.frozen? ⟨w.heap.size, dq, none⟩ = false := World.rowIs.frozen HR.out dq
          have u1 : IntKind.u8.wrap (y : Int) = (y : Int) := IntWalk.u8_in _ (by omega)
          have u2 : IntKind.u8.wrap ((c : Int) + (y : Int)) = (c : Int) + (y : Int) := IntWalk.u8_in _ (by omega)
          have i4 : (dq : Int) < (q : Int) := by omega
          have HR2 : Hid (RowU (wr.setCell ⟨w.heap.size, dq, none⟩ (.int .u8 ((c : Int) + (y : Int)))) w.heap.size q (Ls.cel (Ls.val (G.take (k + 1))))) := by
            show World.rowIs _ _ _ _ _
            refine (World.rowIs.set HR.out dq _).congr fun i _ => ?_
            rw [hcel.out i]
            by_cases e : i = dq
            · subst e
              rw [if_pos rfl, if_pos rfl, ← hc, ← hy]
              simp
            · rw [if_neg e, if_neg e]
          have HB2 : Hid (Below w.heap.size w (wr.setCell ⟨w.heap.size, dq, none⟩ (.int .u8 ((c : Int) + (y : Int))))) := HB.out.setCell (p := ⟨w.heap.size, dq, none⟩) (Nat.le_refl _) _
          rw [← hy]
          clear hy hc hcel HR HB
          go_wp2_with fail
          go_roundg (m - (k + 1))
          case rel => exact ⟨k + 1, by omega, rfl, by go_num, HR2, HB2⟩
          case measure => omega
    · obtain rfl : k = m := by omega
      have hV : G.take k = G := List.take_of_length_le (by rw [← HM.out]; exact Nat.le_refl _)
      have hR2 := HR.out
      rw [hV] at hR2
      have HO : Hid (OwnB wr w.heap.size (.slice (some ⟨w.heap.size, 0, none⟩) q q) (Ls.bytesN n (Ls.val G))) := by
        have h1 := hR2.own (B := w.heap.size) (Ls.cel_lt _) (Nat.le_refl _) (by omega)
        rw [HQN.out] at h1 ⊢
        exact h1
      have hnum := Lib.hid (fun W : World => numR_any (n : Int) W (by omega) (by omega))
      obtain ⟨X, hX⟩ : ∃ X : ByteArray, X = ⟨(Pl.numB (n : Int)).toArray⟩ := ⟨_, rfl⟩
      obtain ⟨Y, hY⟩ : ∃ Y : ByteArray, Y = ⟨(Ls.bytesN n (Ls.val G)).toArray⟩ := ⟨_, rfl⟩
      have HXY : Hid (X ++ Y = ⟨(Ls.pack n G).toArray⟩) := by show _ = _; rw [hX, hY]; simp [Ls.pack, ByteArray.ext_iff]
      have hXl : X.size ≤ 9 := by
        rw [hX]
        show (Pl.numB (n : Int)).toArray.size ≤ 9
        rw [List.size_toArray]
        exact numB_length _
      have hYl : Y.size = q := by rw [hY]; show (Ls.bytesN n (Ls.val G)).toArray.size = q; rw [List.size_toArray, Ls.bytesN_length, HQN.out]
      have hadd : ¬ 9223372036854775807 < X.size + Y.size := by omega
      have hnum2 : Hid (∀ W : World, Calls Try.prog 24 #[.int .i64 (n : Int)] W fun e w' => e = .returned (.string X) ∧ Below W.heap.size W w') := fun W => by rw [hX]; exact hnum.out W
      have hcv : Hid (∀ W : World, Below wr.heap.size wr W → (convert 47 9 (.slice (some ⟨w.heap.size, 0, none⟩) q q)).run Try.prog W = .ok (.string Y) W) := fun W hW => by
        rw [hY]
        exact own_conv (show OwnB W w.heap.size _ _ from ownsRow_keep HO.out fun k hk => hW.block k (World.ownsRow.lt HO.out k hk).2)
      have hcv0 := hcv.out wr.drew (Below.refl _ _).drew
      have d0 : wr.drew.cell? ⟨p, 0, none⟩ = some (.int .i64 (n : Int)) := e0
      have HPW : Hid (p < wr.heap.size) := Nat.lt_of_lt_of_le HP.out HB.out.size
      have HD0 : Hid (wr.drew.cell? ⟨p, 0, none⟩ = some (.int .i64 (n : Int))) := d0
      clear hX hY hnum HO hR2 hV HR hXl hYl
      go_wp2_with fail
      go_region_with (go_at_call 24; refine (hnum2.out _).mono ?_; rintro e1 w9 ⟨rfl, hb9⟩; have hcv9 := hcv.out w9 ((Below.refl _ _).drew.trans hb9); have d9 := (hb9.cell (p := ⟨p, 0, none⟩) HPW.out).trans HD0.out; have HB9 := Lib.hid (HB.out.trans (((Below.refl _ _).drew.trans hb9).mono HB.out.size)); clear hb9)
      all_goals
        go_wp2_with fail
        go_ret
        exact ⟨by rw [← HXY.out]; rfl, HB9.out⟩
end Go.Proofs.Ytoppgecajibelaa
