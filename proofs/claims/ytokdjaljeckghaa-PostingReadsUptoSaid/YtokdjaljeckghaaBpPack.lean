/-
  What the document's own Pack answers.
-/
import Derived.Test.YtokdjaljeckghaaBpRef
namespace Go.Proofs.Ytokdjaljeckghaa
open Go.RowKit

/-- What is packed of any numbers. -/
def packZ (zs : List Int) : List UInt8 × Int := if ∃ z ∈ zs, z < 0 then ([], 1) else (Bp.packB (zs.map Int.toNat), 0)
theorem take_snoc_all {zs : List Int} {k : Nat} (h : k < zs.length) (h1 : ∀ z ∈ zs.take k, 0 ≤ z) (h2 : 0 ≤ zs[k]) : ∀ z ∈ zs.take (k + 1), 0 ≤ z := by
  intro z hz
  rw [List.take_succ_eq_append_getElem h, List.mem_append] at hz
  rcases hz with hz | hz
  · exact h1 z hz
  · simp at hz; omega
theorem chB_step (l : List Nat) (h : 0 < l.length) : Bp.chB l.length l = Bp.blkB (l.take 128) ++ Bp.chB (l.drop 128).length (l.drop 128) := by
  obtain ⟨k, hk⟩ : ∃ k, l.length = k + 1 := ⟨l.length - 1, by omega⟩
  rw [hk]
  simp only [Bp.chB]
  rw [if_neg (by omega), Bp.chB_more (l.drop 128).length k (l.drop 128) (Nat.le_refl _) (by rw [List.length_drop]; omega)]
theorem blk_small (l : List Nat) (h : l.length ≤ 128) (hl : ∀ x ∈ l, x < 9223372036854775808) : (Bp.blkB l).length ≤ 1009 := by
  rw [Bp.blkB_length]
  have h1 := Bp.wd_lt l hl
  have h2 : Bp.wd l * l.length ≤ 63 * 128 := Nat.mul_le_mul h1 h
  unfold Bp.long
  omega

set_option maxRecDepth 100000 in
set_option maxHeartbeats 2000000 in
theorem packR_any (w : World) (b off len cap : Nat) (zs : List Int) (hlen : zs.length = len) (hn : len ≤ 1073741824) (hcap : len ≤ cap) (hcap2 : cap ≤ 9223372036854775807) (hb : b < w.heap.size)
    (hc : ∀ j (h : j < zs.length), w.cell? ⟨b, off + j, none⟩ = some (.int .i64 zs[j])) (hwf : ∀ z ∈ zs, -9223372036854775808 ≤ z ∧ z ≤ 9223372036854775807)
    (t : List UInt8) (e : Int) (hr : packZ zs = (t, e)) :
    Calls Try.prog 29 #[.slice (some ⟨b, off, none⟩) len cap] w fun e' w' => e' = .returned (.tuple #[.string ⟨t.toArray⟩, .int .i64 e]) ∧ Below w.heap.size w w' := by
  have hN := Lib.hid (numR_any (len : Int) w (by omega) (by omega))
  have HC := Lib.hid hc
  have HE := Lib.hid hlen
  have HW := Lib.hid hwf
  have HR := Lib.hid hr
  have hnl := numB_length (len : Int)
  clear hc hlen hwf hr
  go_enter Try.func29, Try.ntmps29
  go_wp2_with (go_at_call 45; refine hN.out.mono ?_; rintro e1 w1 ⟨rfl, hb1⟩; have HB := Lib.hid hb1; clear hb1)
  -- none is below 0
  go_loopg [5] len (fun g i wx => ∃ k : Nat, w1 = wx ∧ k ≤ len ∧ g = len - k ∧ i = .int .i64 k ∧ Hid (∀ z ∈ zs.take k, 0 ≤ z))
  case atStart => exact ⟨0, rfl, Nat.zero_le _, rfl, rfl, by intro z hz; simp at hz⟩
  case round =>
    obtain ⟨k, rfl, hk, rfl, rfl, hnn⟩ := hrel
    by_cases hkl : k < len
    · have i1 : (k : Int) < (len : Int) := by omega
      have hx : k < zs.length := by rw [HE.out]; exact hkl
      have hcell : w1.cell? ⟨b, off + k, none⟩ = some (.int .i64 zs[k]) := (HB.out.cell (p := ⟨b, off + k, none⟩) hb).trans (HC.out k hx)
      by_cases hneg : zs[k] < 0
      · have hr := HR.out
        unfold packZ at hr
        rw [if_pos ⟨zs[k], List.getElem_mem hx, hneg⟩] at hr
        obtain ⟨rfl, rfl⟩ : [] = t ∧ 1 = e := by simpa using hr
        clear hr hnn
        generalize zs[k] = x at *
        go_wp2_with fail
        go_ret2
        exact ⟨rfl, HB.out⟩
      · have hst : Hid (∀ z ∈ zs.take (k + 1), 0 ≤ z) := take_snoc_all hx hnn.out (by omega)
        have hneg2 : ¬ zs[k] < 0 := hneg
        clear hnn hneg
        generalize zs[k] = x at *
        go_wp2_with fail
        go_roundg (len - (k + 1))
        case rel => exact ⟨k + 1, rfl, by omega, rfl, by go_num, hst⟩
        case measure => omega
    · obtain rfl : k = len := by omega
      have hall : ∀ z ∈ zs, 0 ≤ z := by
        have := hnn.out
        rw [List.take_of_length_le (by rw [HE.out]; exact Nat.le_refl _)] at this
        exact this
      have hr := HR.out
      unfold packZ at hr
      rw [if_neg (by rintro ⟨z, hz, h⟩; have := hall z hz; omega)] at hr
      obtain ⟨l, hl⟩ : ∃ l, l = zs.map Int.toNat := ⟨_, rfl⟩
      rw [← hl] at hr
      obtain ⟨rfl, rfl⟩ : Bp.packB l = t ∧ 0 = e := by simpa using hr
      have hll : l.length = k := by rw [hl, List.length_map]; exact HE.out
      have hlt : Hid (∀ x ∈ l, x < 9223372036854775808) := by
        show ∀ x ∈ l, x < 9223372036854775808
        intro x hx
        rw [hl] at hx
        obtain ⟨z, hz, rfl⟩ := List.mem_map.1 hx
        have := HW.out z hz
        omega
      have HCL : Hid (∀ j (h : j < l.length), w1.cell? ⟨b, off + j, none⟩ = some (.int .i64 (l[j] : Int))) := by
        intro j h
        have hz : j < zs.length := by rw [HE.out, ← hll]; exact h
        rw [HB.out.cell (p := ⟨b, off + j, none⟩) hb, HC.out j hz]
        have e : l[j] = zs[j].toNat := by simp [hl]
        have := hall _ (List.getElem_mem hz)
        rw [e, Int.toNat_of_nonneg this]
      have HLL := Lib.hid hll
      have hb1 : b < w1.heap.size := Nat.lt_of_lt_of_le hb HB.out.size
      have HS : Hid (Pl.numB (k : Int) ++ Bp.chB (l.drop (128 * 0)).length (l.drop (128 * 0)) = Bp.packB l) := by
        show _ = _
        rw [Nat.mul_zero, List.drop_zero, Bp.packB, hll]
      clear hr hl hall hnn HR HC HE HW hk hkl hll
      go_wp2_with fail
      -- block by block
      go_loopg [4, 6, 7] (k + 128) (fun g v i u wx => ∃ (p q : Nat) (acc : List UInt8), p ≤ k + 127 ∧ g = k + 128 - p ∧ i = .int .i64 (p : Int) ∧ v = .string ⟨acc.toArray⟩ ∧ acc.length ≤ 9 + 1009 * q ∧ Hid (p = 128 * q) ∧ Hid (acc ++ Bp.chB (l.drop p).length (l.drop p) = Bp.packB l) ∧ Below w1.heap.size w1 wx)
      case atStart => exact ⟨0, 0, _, by omega, rfl, rfl, rfl, by omega, rfl, HS, Below.refl _ _⟩
      case round =>
        clear HS
        obtain ⟨p, q, acc, hp, rfl, rfl, rfl, hacc, hpq, hS, hbel⟩ := hrel
        have hpq2 : p = 128 * q := hpq.out
        by_cases hpk : p < k
        · have i1 : (p : Int) < (k : Int) := by omega
          obtain ⟨m, hm⟩ : ∃ m, m = min (p + 128) k - p := ⟨_, rfl⟩
          have hm1 : m = ((l.drop p).take 128).length := by rw [List.length_take, List.length_drop, HLL.out]; omega
          have hblk := blockR3_any wr b (off + p) m (cap - p) ((l.drop p).take 128) hm1.symm (by omega) (Nat.lt_of_lt_of_le hb1 hbel.size) (by
            intro j hj
            have hj2 : p + j < l.length := by rw [List.length_take, List.length_drop] at hj; omega
            rw [Nat.add_assoc, hbel.cell (p := ⟨b, off + (p + j), none⟩) hb1, HCL.out (p + j) hj2, List.getElem_take, List.getElem_drop]) (fun x hx => hlt.out x (List.mem_of_mem_drop (List.mem_of_mem_take hx)))
          have hbl := blk_small ((l.drop p).take 128) (by omega) (fun x hx => hlt.out x (List.mem_of_mem_drop (List.mem_of_mem_take hx)))
          have hst : Hid ((acc ++ Bp.blkB ((l.drop p).take 128)) ++ Bp.chB (l.drop (p + 128)).length (l.drop (p + 128)) = Bp.packB l) := by
            have h := hS.out
            rw [chB_step (l.drop p) (by rw [List.length_drop, HLL.out]; omega), List.drop_drop] at h
            show _ = _
            rw [List.append_assoc]
            exact h
          have hq2 : Hid (p + 128 = 128 * (q + 1)) := by show _ = _; omega
          have hq3 : q ≤ 8388608 := by omega
          have hs1 : (⟨acc.toArray⟩ : ByteArray).size ≤ 9 + 1009 * q := by
            have : (⟨acc.toArray⟩ : ByteArray).size = acc.length := by simp [ByteArray.size]
            omega
          have hs2 : (⟨(Bp.blkB ((l.drop p).take 128)).toArray⟩ : ByteArray).size ≤ 1009 := by
            have : (⟨(Bp.blkB ((l.drop p).take 128)).toArray⟩ : ByteArray).size = (Bp.blkB ((l.drop p).take 128)).length := by simp [ByteArray.size]
            omega
          have HBK := Lib.hid hblk
          have HBW := Lib.hid hbel
          clear hblk hS hpq hpq2 hbel hm1
          generalize Bp.blkB ((l.drop p).take 128) = bl at *
          have hadd := Lib.hid (by
            have h : (⟨acc.toArray⟩ : ByteArray) ++ ⟨bl.toArray⟩ = ⟨(acc ++ bl).toArray⟩ := by
              apply mk_of
              rw [ByteArray.data_append]
              simp
            exact h)
          have hn1 : ¬ 9223372036854775807 < (⟨acc.toArray⟩ : ByteArray).size + (⟨bl.toArray⟩ : ByteArray).size := by omega
          by_cases hbig : k < p + 128
          · have i2 : (k : Int) < (p : Int) + 128 := by omega
            obtain rfl : m = k - p := by omega
            clear hm hbig
            go_wp2_with (go_at_call 46; refine HBK.out.mono ?_; rintro e1 w2 ⟨rfl, hb2⟩; have HB2 : Hid (Below w1.heap.size w1 w2) := HBW.out.trans (hb2.mono HBW.out.size); clear hb2)
            go_roundg (k + 128 - (p + 128))
            case rel => exact ⟨p + 128, q + 1, acc ++ bl, by omega, rfl, by go_num, by rw [hadd.out], by rw [List.length_append]; have := hs2; simp [ByteArray.size] at this; omega, hq2, hst, HB2.out⟩
            case measure => omega
          · have i2 : ¬ (k : Int) < (p : Int) + 128 := by omega
            obtain rfl : m = 128 := by omega
            clear hm hbig
            go_wp2_with (go_at_call 46; refine HBK.out.mono ?_; rintro e1 w2 ⟨rfl, hb2⟩; have HB2 : Hid (Below w1.heap.size w1 w2) := HBW.out.trans (hb2.mono HBW.out.size); clear hb2)
            go_roundg (k + 128 - (p + 128))
            case rel => exact ⟨p + 128, q + 1, acc ++ bl, by omega, rfl, by go_num, by rw [hadd.out], by rw [List.length_append]; have := hs2; simp [ByteArray.size] at this; omega, hq2, hst, HB2.out⟩
            case measure => omega
        · have hfin : Hid (acc = Bp.packB l) := by
            have h := hS.out
            rw [List.drop_of_length_le (by rw [HLL.out]; omega)] at h
            show _ = _
            simpa [Bp.chB] using h
          have HBW : Hid (Below w.heap.size w wr) := HB.out.trans (hbel.mono HB.out.size)
          clear hS hbel hpq hpq2
          go_wp2_with fail
          go_ret2
          exact ⟨by rw [hfin.out]; rfl, HBW.out⟩

set_option maxRecDepth 100000 in
set_option maxHeartbeats 2000000 in
/-- Of no numbers. -/
theorem packR_none (w : World) (a : Option Addr) (cap : Nat) :
    Calls Try.prog 29 #[.slice a 0 cap] w fun e' w' => e' = .returned (.tuple #[.string ⟨(Bp.packB []).toArray⟩, .int .i64 0]) ∧ Below w.heap.size w w' := by
  have hN := Lib.hid (numR_any 0 w (by omega) (by omega))
  go_enter Try.func29, Try.ntmps29
  go_wp2_with (go_at_call 45; refine hN.out.mono ?_; rintro e1 w1 ⟨rfl, hb1⟩; have HB := Lib.hid hb1; clear hb1)
  refine wp_loop_rounds 1 ?_
  rw [rounds_succ]
  go_wp2
  refine wp_loop_rounds 1 ?_
  rw [rounds_succ]
  go_wp2
  go_ret2
  exact ⟨by rw [show Bp.packB [] = Pl.numB 0 from rfl]; rfl, HB.out⟩
end Go.Proofs.Ytokdjaljeckghaa
