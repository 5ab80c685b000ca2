/-
  What the program's Pack answers: the document's bytes.
-/
import Derived.Test.YtokdjaljeckghaaBpBlk
namespace Go.Proofs.Ytokdjaljeckghaa
open Go.RowKit

/-- How many there are, as the program's Nums writes it. -/
theorem nums_len (w : World) (n : Nat) (hn : n ≤ 1073741824) :
    Calls Try.prog 41 #[.slice (some ⟨w.heap.size, 0, none⟩) 1 1] (w.alloc (.cells #[.int .i64 (n : Int)] 3)) (fun e' w' => e' = .returned (.string ⟨(Pl.numB (n : Int)).toArray⟩) ∧ Below w.heap.size w w') := by
  have h := nums_any (w.alloc (.cells #[.int .i64 (n : Int)] 3)) [(n : Int)] 1 1 w.heap.size 0 (by omega) rfl (by simp) (by
    intro j hj
    match j, hj with
    | 0, _ => rw [World.cell?_alloc_at _ _ _ _ rfl]; rfl) (by intro n hn; simp at hn; omega)
  refine h.mono fun e w' ⟨h1, h2⟩ => ⟨?_, ((Below.refl w.heap.size w).alloc (Nat.le_refl _) _).trans (h2.mono (by simp))⟩
  rw [h1]
  simp [Pl.numsB]

set_option maxRecDepth 100000 in
set_option maxHeartbeats 4000000 in
theorem pack_none (w : World) (a : Option Addr) (cap : Nat) :
    Calls Try.prog 26 #[.slice a 0 cap] w fun e' w' => e' = .returned (.tuple #[.string ⟨(Bp.packB []).toArray⟩, .int .i64 0]) ∧ Below w.heap.size w w' := by
  have hN := Lib.hid (nums_len w 0 (by omega))
  have hnl := numB_length ((0 : Nat) : Int)
  have HPB : Hid (Bp.packB [] = Pl.numB ((0 : Nat) : Int)) := by show _ = _; simp [Bp.packB, Bp.chB]
  generalize Pl.numB ((0 : Nat) : Int) = hd at *
  have hsz : (⟨hd.toArray⟩ : ByteArray).size ≤ maxLen := by
    have : (⟨hd.toArray⟩ : ByteArray).size = hd.length := by simp [ByteArray.size]
    unfold maxLen
    omega
  go_enter Try.func26, Try.ntmps26
  go_wp2_with fail
  refine wp_loop_rounds 1 ?_
  rw [rounds_succ]
  go_wp2_with (go_at_call 41; refine hN.out.mono ?_; rintro e1 w1 ⟨rfl, hb1⟩; obtain ⟨v1, w2, hcv, hown, hb2⟩ := ownM_conv_of w1 ⟨hd.toArray⟩ w.heap.size hb1.size hsz; have HB : Hid (Below w.heap.size w w2) := hb1.trans hb2; have HOW := Lib.hid hown; clear hb1 hb2 hown)
  refine wp_loop_rounds 1 ?_
  rw [rounds_succ]
  have hback := ownM_conv HOW.out
  have hback2 : (convert 54 9 v1).run Try.prog w2 = .ok (.string ⟨hd.toArray⟩) w2 := by simpa using hback
  clear hback
  go_wp2_with fail
  go_ret2
  exact ⟨by rw [HPB.out]; rfl, HB.out⟩

set_option maxRecDepth 100000 in
set_option maxHeartbeats 4000000 in
theorem pack_some (w : World) (b off len cap : Nat) (zs : List Int) (hlen : zs.length = len) (hpos : 0 < len) (hn : len ≤ 1073741824) (hcap : len ≤ cap) (hcap2 : cap ≤ 9223372036854775807) (hb : b < w.heap.size)
    (hc : ∀ j (h : j < zs.length), w.cell? ⟨b, off + j, none⟩ = some (.int .i64 zs[j])) (hwf : Wf zs)
    (t : List UInt8) (e : Int) (hr : packZ zs = (t, e)) :
    Calls Try.prog 26 #[.slice (some ⟨b, off, none⟩) len cap] w fun e' w' => e' = .returned (.tuple #[.string ⟨t.toArray⟩, .int .i64 e]) ∧ Below w.heap.size w w' := by
  have hN := Lib.hid (nums_len w len hn)
  have HC := Lib.hid hc
  have HE := Lib.hid hlen
  have HW := Lib.hid hwf
  have HR := Lib.hid hr
  have hnl := numB_length (len : Int)
  clear hc hlen hwf hr
  go_enter Try.func26, Try.ntmps26
  go_wp2_with fail
  -- none is below 0
  go_loopg [10] len (fun g i wx => ∃ k : Nat, w = wx ∧ k ≤ len ∧ g = len - k ∧ i = .int .i64 (k : Int) ∧ Hid (∀ z ∈ zs.take k, 0 ≤ z))
  case atStart => exact ⟨0, rfl, Nat.zero_le _, rfl, rfl, by intro z hz; simp at hz⟩
  case round =>
    obtain ⟨k, rfl, hk, rfl, rfl, hnn⟩ := hrel
    by_cases hkl : k < len
    · have i1 : (k : Int) < (len : Int) := by omega
      have hx : k < zs.length := by rw [HE.out]; exact hkl
      have hcell := HC.out k hx
      by_cases hneg : zs[k] < 0
      · have hr := HR.out
        unfold packZ at hr
        rw [if_pos ⟨zs[k], List.getElem_mem hx, hneg⟩] at hr
        obtain ⟨rfl, rfl⟩ : [] = t ∧ 1 = e := by simpa using hr
        clear hr hnn
        generalize zs[k] = x at *
        go_wp2_with fail
        go_ret2
        exact ⟨rfl, Below.refl _ _⟩
      · have hst : Hid (∀ z ∈ zs.take (k + 1), 0 ≤ z) := take_snoc_all hx hnn.out (by omega)
        have hneg2 : ¬ zs[k] < 0 := hneg
        clear hnn hneg
        generalize zs[k] = x at *
        go_wp2_with fail
        go_roundg (len - (k + 1))
        case rel => exact ⟨k + 1, rfl, by omega, rfl, by go_num, hst⟩
        case measure => omega
    · obtain rfl : k = len := by omega
      have hall : ∀ z ∈ zs, 0 ≤ z := by
        have := hnn.out
        rw [List.take_of_length_le (by rw [HE.out]; exact Nat.le_refl _)] at this
        exact this
      have hr := HR.out
      unfold packZ at hr
      rw [if_neg (by rintro ⟨z, hz, h⟩; have := hall z hz; omega)] at hr
      obtain ⟨l, hl⟩ : ∃ l, l = zs.map Int.toNat := ⟨_, rfl⟩
      rw [← hl] at hr
      obtain ⟨rfl, rfl⟩ : Bp.packB l = t ∧ 0 = e := by simpa using hr
      have hll : l.length = k := by rw [hl, List.length_map]; exact HE.out
      have hlt : Hid (∀ x ∈ l, x < 9223372036854775808) := by
        show ∀ x ∈ l, x < 9223372036854775808
        intro x hx
        rw [hl] at hx
        obtain ⟨z, hz, rfl⟩ := List.mem_map.1 hx
        have := HW.out z hz
        omega
      have HCL : Hid (∀ j (h : j < l.length), w.cell? ⟨b, off + j, none⟩ = some (.int .i64 (l[j] : Int))) := by
        intro j h
        have hz : j < zs.length := by rw [HE.out, ← hll]; exact h
        rw [HC.out j hz]
        have e : l[j] = zs[j].toNat := by simp [hl]
        have := hall _ (List.getElem_mem hz)
        rw [e, Int.toNat_of_nonneg this]
      have HLL := Lib.hid hll
      have HS : Hid (Pl.numB (k : Int) ++ Bp.chB (l.drop 0).length (l.drop 0) = Bp.packB l) := by
        show _ = _
        rw [List.drop_zero, Bp.packB, hll]
      clear hr hl hall hnn HR HC HE HW hk hkl hll
      generalize Pl.numB (k : Int) = hd at *
      have hsz : (⟨hd.toArray⟩ : ByteArray).size ≤ maxLen := by
        have : (⟨hd.toArray⟩ : ByteArray).size = hd.length := by simp [ByteArray.size]
        unfold maxLen
        omega
      have hdd : Hid ((⟨hd.toArray⟩ : ByteArray).data.toList = hd) := by show _ = _; simp
      go_wp2_with (go_at_call 41; refine hN.out.mono ?_; rintro e1 w1 ⟨rfl, hb1⟩; obtain ⟨v1, w2, hcv, hown, hb2⟩ := ownM_conv_of w1 ⟨hd.toArray⟩ w.heap.size hb1.size hsz; have HB : Hid (Below w.heap.size w w2) := hb1.trans hb2; have HOW : Hid (OwnM w2 w.heap.size v1 hd) := cast (congrArg (OwnM w2 w.heap.size v1) hdd.out) hown; clear hb1 hb2 hown)
      -- block by block
      go_loopg [0, 6] k (fun g lv ov wx => ∃ (p q c o' : Nat) (acc : List UInt8), p + q ≤ k ∧ k ≤ p + q ∧ g = q ∧ lv = .slice (some ⟨b, o', none⟩) q c ∧ (0 < q → o' = off + p) ∧ q ≤ c ∧ c ≤ 9223372036854775807 ∧ acc.length ≤ 9 + 1009 * p ∧ Hid (acc ++ Bp.chB (l.drop p).length (l.drop p) = Bp.packB l) ∧ OwnM wx w.heap.size ov acc ∧ Below w.heap.size w wx)
      case atStart => exact ⟨0, k, cap, off, hd, by omega, by omega, rfl, rfl, fun _ => rfl, by omega, by omega, by omega, HS, HOW.out, HB.out⟩
      case round =>
        clear HS HOW HB hcv hsz hdd hnl hcap hcap2
        obtain ⟨p, q, c, o', acc, hq3, hq4, rfl, rfl, ho, hcp, hc2, hacc, hS, hown, hbel⟩ := hrel
        by_cases hpk : 0 < gk
        · obtain rfl := ho hpk
          clear ho
          have i1 : (0 : Int) < (gk : Int) := by omega
          obtain ⟨m, hm⟩ : ∃ m, m = Nat.min gk 128 := ⟨_, rfl⟩
          have hm2 : m ≤ gk ∧ m ≤ 128 ∧ 0 < m := by
            have h1 : m = min gk 128 := hm
            omega
          have hml : ((l.drop p).take 128).length = m := by
            rw [List.length_take, List.length_drop, HLL.out, hm, show k - p = gk from by omega]
            exact Nat.min_comm _ _
          have hIn := Lib.hid (inBlock_any gk (by omega))
          rw [← hm] at hIn
          have hB := hbel.size
          have hlt' : ∀ x ∈ (l.drop p).take 128, x < 9223372036854775808 := fun x hx => hlt.out x (List.mem_of_mem_drop (List.mem_of_mem_take hx))
          have hblk := appendBlock_any wr w w.heap.size u6 acc b (off + p) m c ((l.drop p).take 128) hml hm2.2.1 hown hbel hB (by omega) hb (by
            intro j hj
            have hj2 : p + j < l.length := by rw [List.length_take, List.length_drop] at hj; omega
            rw [Nat.add_assoc, hbel.cell (p := ⟨b, off + (p + j), none⟩) hb, HCL.out (p + j) hj2, List.getElem_take, List.getElem_drop]) hlt'
          have hbl := blk_small ((l.drop p).take 128) (by omega) hlt'
          have hst : Hid ((acc ++ Bp.blkB ((l.drop p).take 128)) ++ Bp.chB (l.drop (p + m)).length (l.drop (p + m)) = Bp.packB l) := by
            have h := hS.out
            rw [chB_step (l.drop p) (by rw [List.length_drop, HLL.out]; omega), List.drop_drop] at h
            show _ = _
            rw [List.append_assoc]
            by_cases h128 : gk ≤ 128
            · have e1 : m = gk := by have h1 : m = min gk 128 := hm; omega
              have e2 : l.drop (p + m) = [] := List.drop_of_length_le (by rw [HLL.out]; omega)
              have e3 : l.drop (p + 128) = [] := List.drop_of_length_le (by rw [HLL.out]; omega)
              rw [e3] at h
              rw [e2]
              exact h
            · have e1 : m = 128 := by have h1 : m = min gk 128 := hm; omega
              rw [e1]
              exact h
          have HBK := Lib.hid hblk
          have HBW := Lib.hid hbel
          obtain ⟨m1, m2, m3⟩ := hm2
          clear hblk hS hbel hown hlt' hml hm
          generalize Bp.blkB ((l.drop p).take 128) = bl at *
          have hcm : m ≤ c := by omega
          have haq : (acc ++ bl).length ≤ 9 + 1009 * (p + m) := by rw [List.length_append]; omega
          go_wp2_with (first | (go_at_call 42; refine (hIn.out _).mono ?_; rintro e1 w3 ⟨rfl, rfl⟩) | (go_at_call 43; refine HBK.out.mono ?_; rintro e1 w4 ⟨v4, rfl, hown4, hbel4⟩; have HO4 := Lib.hid hown4; have HB4 := Lib.hid hbel4; clear hown4 hbel4))
          all_goals go_roundg (gk - m)
          all_goals first
            | (exact ⟨p + m, gk - m, _, _, acc ++ bl, by omega, by omega, rfl, rfl, by omega, by omega, by omega, haq, hst, HO4.out, HB4.out⟩)
            | omega
        · obtain rfl : gk = 0 := by omega
          have hfin : Hid (acc = Bp.packB l) := by
            have h := hS.out
            rw [List.drop_of_length_le (by rw [HLL.out]; omega)] at h
            show _ = _
            simpa [Bp.chB] using h
          have HBW := Lib.hid hbel
          have hback := ownM_conv hown
          clear hS hbel hown
          go_wp2_with fail
          go_ret2
          exact ⟨by rw [hfin.out]; rfl, HBW.out⟩

theorem pack_c : PackC := by
  intro w v zs h hl hw
  obtain ⟨a, cap, rfl, h2, h3, h4⟩ := h
  by_cases h0 : zs.length = 0
  · obtain rfl : zs = [] := List.length_eq_zero_iff.1 h0
    exact pack_none w a cap
  · obtain ⟨g, o, rfl, h5, h6⟩ := h4 (by omega)
    exact pack_some w g o zs.length cap zs rfl (by omega) hl h2 h3 h5 h6 hw _ _ rfl
end Go.Proofs.Ytokdjaljeckghaa
