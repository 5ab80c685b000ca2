/-
  What TupleBack does: what was written is gone over as it was.
-/
import Derived.Test.YtilbmbddocimkaaDoorItem
namespace Go.Proofs.YtilbmbddocimkaaDoor
open Go.RowKit Od Rw Iv

theorem wrB_more (K N : List Int) (S : List ByteArray) (a : Nat) : ∀ d, ∃ r, wrB K N S (a + d) = wrB K N S a ++ r := by
  intro d
  induction d with
  | zero => exact ⟨[], by simp⟩
  | succ d ih =>
    obtain ⟨r, h⟩ := ih
    refine ⟨r ++ itB (K.getD (a + d) 0) (N.getD (a + d) 0) (S.getD (a + d) ByteArray.empty), ?_⟩
    show wrB K N S (a + d) ++ _ = _
    rw [h]
    simp

/-- A call has gone over an item. -/
def StepPost (B : Nat) (wr : World) (total pre : List UInt8) (v : Value) (e' : Ending) (w' : World) : Prop :=
  e' = .returned (.tuple #[v, .int .i64 0]) ∧ Below B wr w' ∧ ∃ st', Cur w' B st' ∧ total = pre ++ st'.data.toList ∧ st'.size ≤ 700000000

theorem step_rest {st : ByteArray} {x r : List UInt8} (h : st.data.toList = x ++ r) (z : Int) (hz : z = (x.length : Int)) : (rest st z).data.toList = r := by
  rw [rest_data, h, hz]
  simp
theorem rest_le (st : ByteArray) (z : Int) : (rest st z).size ≤ st.size := by
  unfold rest
  rw [ByteArray.size_extract]
  omega

theorem step_num (B : Nat) (wr : World) (st : ByteArray) (n : Int) (total pre r : List UInt8) (hc : Cur wr B st) (hs : st.size ≤ 700000000) (hn : -9223372036854775808 ≤ n ∧ n ≤ 9223372036854775807) (h1 : st.data.toList = Pl.numB n ++ r) (h2 : total = pre ++ r) :
    Calls Tryd.prog 17 #[.pointer (some ⟨B, 0, none⟩)] wr (StepPost B wr total pre (.int .i64 n)) := by
  have hb := num_back n r hn.1 hn.2
  rw [← h1] at hb
  refine (num_any st B wr hc (by omega) _ _ _ hb).mono fun e' w' ⟨g1, g2, g3⟩ => ⟨g1, g2, _, g3, ?_, ?_⟩
  · rw [step_rest h1 _ rfl]; exact h2
  · have := rest_le st ((Pl.numB n).length : Int); omega
theorem step_text (B : Nat) (wr : World) (st s : ByteArray) (total pre r : List UInt8) (hc : Cur wr B st) (hs : st.size ≤ 700000000) (h1 : st.data.toList = textB s.data.toList ++ r) (h2 : total = pre ++ r) :
    Calls Tryd.prog 18 #[.pointer (some ⟨B, 0, none⟩)] wr (StepPost B wr total pre (.string s)) := by
  have hb := text_back s.data.toList r [] 0
  rw [← h1, List.nil_append] at hb
  refine (text_any st B wr hc (by omega) _ _ _ hb).mono fun e' w' ⟨g1, g2, g3⟩ => ⟨?_, g2, _, g3, ?_, ?_⟩
  · rw [g1, ← mk_of (s := s) rfl]
  · rw [step_rest h1 _ (by simp)]; exact h2
  · have := rest_le st (((0 : Nat) : Int) + (textB s.data.toList).length); omega
theorem step_block (B : Nat) (wr : World) (st s : ByteArray) (total pre r : List UInt8) (hc : Cur wr B st) (hs : st.size ≤ 700000000) (hs2 : s.size ≤ 1048576) (h1 : st.data.toList = blockB s.data.toList ++ r) (h2 : total = pre ++ r) :
    Calls Tryd.prog 19 #[.pointer (some ⟨B, 0, none⟩)] wr (StepPost B wr total pre (.string s)) := by
  have e : s.data.toList.length = s.size := by simp
  have hb := block_back s.data.toList r (by omega)
  rw [← h1] at hb
  refine (block_any st B wr hc (by omega) _ _ _ hb).mono fun e' w' ⟨g1, g2, g3⟩ => ⟨?_, g2, _, g3, ?_, ?_⟩
  · rw [g1, ← mk_of (s := s) rfl]
  · rw [step_rest h1 _ rfl]; exact h2
  · have := rest_le st ((blockB s.data.toList).length : Int); omega

set_option maxRecDepth 100000 in
set_option maxHeartbeats 8000000 in
theorem tupleBack_main (a : Option Addr) (len cap : Nat) (K N : List Int) (S : List ByteArray) (more : ByteArray) (w : World) (hm : Hid (MaxI w)) (hl : len ≤ 300) (hI : Hid (InItems w a len K N S)) (hmore : more.size ≤ 1048576) :
    Calls Tryd.prog 4 #[.slice a len cap, .string more] w fun e w' => e = .returned (.bool true) ∧ Below w.heap.size w w' := by
  have hws : (⟨(wrB K N S len).toArray⟩ : ByteArray).size ≤ 629148900 := by
    have : ∀ k, k ≤ len → (wrB K N S k).length ≤ 2097163 * k := by
      intro k
      induction k with
      | zero => intro _; simp [wrB]
      | succ k ih =>
        intro hk
        obtain ⟨_, _, _, _, hc⟩ := hI.out (by omega)
        obtain ⟨_, _, _, _, _, s0⟩ := hc k (by omega)
        have h1 := itB_size (K.getD k 0) (N.getD k 0) (S.getD k ByteArray.empty) s0
        have h2 := ih (by omega)
        simp only [wrB, List.length_append]
        omega
    have := this len (Nat.le_refl _)
    have e : (⟨(wrB K N S len).toArray⟩ : ByteArray).size = (wrB K N S len).length := by simp [ByteArray.size]
    omega
  have hW : Hid (∀ W, Below w.heap.size w W → Calls Tryd.prog 16 #[.slice a len cap] W (StrPost W.heap.size W (wrB K N S len))) := by
    intro W hW
    refine written_any a len cap K N S W (hm.out.grow hW) hl ?_
    intro hn
    obtain ⟨b, off, h1, h2, h3⟩ := hI.out hn
    refine ⟨b, off, h1, Nat.lt_of_lt_of_le h2 hW.size, fun k hk => ?_⟩
    obtain ⟨c1, c2, c3, c4⟩ := h3 k hk
    exact ⟨(hW.cell (p := ⟨b, off + k * 3, none⟩) h2).trans c1, (hW.cell (p := ⟨b, off + k * 3 + 1, none⟩) h2).trans c2, (hW.cell (p := ⟨b, off + k * 3 + 2, none⟩) h2).trans c3, c4⟩
  have hall : Hid (∀ k, k ≤ len → ∃ r, wrB K N S len = wrB K N S k ++ r) := by
    intro k hk
    have := wrB_more K N S k (len - k)
    rw [show k + (len - k) = len from by omega] at this
    exact this
  go_enter Tryd.func4, Tryd.ntmps4
  go_wp2_with fail
  refine (awake_any w).mono ?_
  rintro e w1 ⟨rfl, hb1⟩
  have HB1 := Lib.hid hb1
  clear hb1
  go_wp2_with fail
  refine (hW.out w1 HB1.out).mono ?_
  rintro e w2 ⟨rfl, hb1⟩
  have HB2 : Hid (Below w.heap.size w w2) := HB1.out.trans (hb1.mono HB1.out.size)
  clear hb1 HB1 hW
  have htot : Hid (((⟨(wrB K N S len).toArray⟩ : ByteArray) ++ more).data.toList = wrB K N S len ++ more.data.toList) := by
    show _ = _
    rw [ByteArray.data_append, Array.toList_append]
  have htsz : ((⟨(wrB K N S len).toArray⟩ : ByteArray) ++ more).size ≤ 700000000 := by rw [ByteArray.size_append]; omega
  generalize (⟨(wrB K N S len).toArray⟩ : ByteArray) = wb at *
  have z1 : wb.size + more.size ≤ 9223372036854775807 := by omega
  go_wp2_with fail
  refine (at_any _ w2).mono ?_
  rintro e w3 ⟨rfl, rfl⟩
  have HC := Lib.hid (at_cur (wb ++ more) w2 52)
  have HB3 : Hid (Below w.heap.size w (w2.alloc (.cells #[.string (wb ++ more)] 52))) := HB2.out.alloc HB2.out.size _
  obtain ⟨B, hB⟩ : ∃ B, B = w2.heap.size := ⟨_, rfl⟩
  have hBw : w.heap.size ≤ B := by rw [hB]; exact HB2.out.size
  rw [← hB] at HC ⊢
  clear hB
  go_wp2_with fail
  go_loopw [6] (fun i wr => ∃ (k : Nat) (st : ByteArray), k ≤ len ∧ i = .int .i64 k ∧ Cur wr B st ∧ Hid (wrB K N S len ++ more.data.toList = wrB K N S k ++ st.data.toList) ∧ st.size ≤ 700000000 ∧ Below w.heap.size w wr) (fun i _ => len - (intOf i).toNat)
  case atStart => exact ⟨0, _, Nat.zero_le _, rfl, HC.out, by show _ = _; rw [htot.out]; rfl, htsz, HB3.out⟩
  case round =>
    clear HC HB3 HB2 htot htsz z1
    obtain ⟨k, st, hk, rfl, hcur, hst, hss, hbel⟩ := hrel
    have HCU := Lib.hid hcur
    have HBE := Lib.hid hbel
    clear hcur hbel
    by_cases hlt : k < len
    · obtain ⟨b, off, h1, hb, hc⟩ := hI.out (by omega)
      subst h1
      obtain ⟨c1, c2, c3, ⟨k0, k1⟩, hn, s0⟩ := hc k hlt
      have d1 : wr.cell? ⟨b, off + k * 3, none⟩ = some (.int .u8 (K.getD k 0)) := (HBE.out.cell (p := ⟨b, off + k * 3, none⟩) hb).trans c1
      have HD2 : Hid (∀ W, Below B wr W → W.cell? ⟨b, off + k * 3, none⟩ = some (.int .u8 (K.getD k 0)) ∧ W.cell? ⟨b, off + k * 3 + 1, none⟩ = some (.int .i64 (N.getD k 0)) ∧ W.cell? ⟨b, off + k * 3 + 2, none⟩ = some (.string (S.getD k ByteArray.empty))) := by
        intro W hW
        have hx : Below w.heap.size w W := HBE.out.trans (hW.mono hBw)
        exact ⟨(hx.cell (p := ⟨b, off + k * 3, none⟩) hb).trans c1, (hx.cell (p := ⟨b, off + k * 3 + 1, none⟩) hb).trans c2, (hx.cell (p := ⟨b, off + k * 3 + 2, none⟩) hb).trans c3⟩
      clear hc c1 c2 c3
      obtain ⟨r, hr⟩ := hall.out (k + 1) (by omega)
      have hsd : Hid (st.data.toList = itB (K.getD k 0) (N.getD k 0) (S.getD k ByteArray.empty) ++ (r ++ more.data.toList)) := by
        have h := hst.out
        rw [hr] at h
        simp only [wrB, List.append_assoc] at h
        exact (List.append_cancel_left h).symm
      have htt : Hid (wrB K N S len ++ more.data.toList = wrB K N S (k + 1) ++ (r ++ more.data.toList)) := by
        show _ = _
        rw [hr]
        simp
      clear hr hst
      generalize K.getD k 0 = kd at *
      generalize N.getD k 0 = nn at *
      generalize S.getD k ByteArray.empty = sk at *
      have i0 : (0 : Int) ≤ (k : Int) := by omega
      have i1 : (k : Int) < (len : Int) := by omega
      have hq3 : kd % 3 = 0 ∨ kd % 3 = 1 ∨ kd % 3 = 2 := by omega
      rcases hq3 with hq | hq | hq
      · have hC : Hid (Calls Tryd.prog 17 #[.pointer (some ⟨B, 0, none⟩)] wr (StepPost B wr (wrB K N S len ++ more.data.toList) (wrB K N S (k + 1)) (.int .i64 nn))) := by
          have e : itB kd nn sk = Pl.numB nn := by unfold itB; rw [if_pos hq]
          have h := hsd.out
          rw [e] at h
          exact step_num B wr st nn _ _ _ HCU.out hss hn h htt.out
        obtain ⟨n0, n1⟩ := hn
        clear hsd htt
        go_wp2_with (go_at_call 17; refine hC.out.mono ?_; rintro e w' ⟨rfl, hb1, st', g3, g4, g5⟩; have HB1 : Hid (Below w.heap.size w w') := HBE.out.trans (hb1.mono hBw); have HC1 := Lib.hid g3; have HT1 := Lib.hid g4; obtain ⟨e1, e2, e3⟩ := HD2.out w' hb1; clear hb1 g3 g4)
        go_roundw
        case rel => exact ⟨k + 1, st', by omega, by go_num, HC1.out, HT1.out, g5, HB1.out⟩
        case measure => simp [intOf]; omega
      · have hC : Hid (Calls Tryd.prog 18 #[.pointer (some ⟨B, 0, none⟩)] wr (StepPost B wr (wrB K N S len ++ more.data.toList) (wrB K N S (k + 1)) (.string sk))) := by
          have e : itB kd nn sk = textB sk.data.toList := by unfold itB; rw [if_neg (by omega), if_pos hq]
          have h := hsd.out
          rw [e] at h
          exact step_text B wr st sk _ _ _ HCU.out hss h htt.out
        clear hsd htt
        go_wp2_with (go_at_call 18; refine hC.out.mono ?_; rintro e w' ⟨rfl, hb1, st', g3, g4, g5⟩; have HB1 : Hid (Below w.heap.size w w') := HBE.out.trans (hb1.mono hBw); have HC1 := Lib.hid g3; have HT1 := Lib.hid g4; obtain ⟨e1, e2, e3⟩ := HD2.out w' hb1; clear hb1 g3 g4)
        go_roundw
        case rel => exact ⟨k + 1, st', by omega, by go_num, HC1.out, HT1.out, g5, HB1.out⟩
        case measure => simp [intOf]; omega
      · have hC : Hid (Calls Tryd.prog 19 #[.pointer (some ⟨B, 0, none⟩)] wr (StepPost B wr (wrB K N S len ++ more.data.toList) (wrB K N S (k + 1)) (.string sk))) := by
          have e : itB kd nn sk = blockB sk.data.toList := by unfold itB; rw [if_neg (by omega), if_neg (by omega)]
          have h := hsd.out
          rw [e] at h
          exact step_block B wr st sk _ _ _ HCU.out hss s0 h htt.out
        clear hsd htt
        go_wp2_with (go_at_call 19; refine hC.out.mono ?_; rintro e w' ⟨rfl, hb1, st', g3, g4, g5⟩; have HB1 : Hid (Below w.heap.size w w') := HBE.out.trans (hb1.mono hBw); have HC1 := Lib.hid g3; have HT1 := Lib.hid g4; obtain ⟨e1, e2, e3⟩ := HD2.out w' hb1; clear hb1 g3 g4)
        go_roundw
        case rel => exact ⟨k + 1, st', by omega, by go_num, HC1.out, HT1.out, g5, HB1.out⟩
        case measure => simp [intOf]; omega
    · obtain rfl : k = len := by omega
      have hend : st = more := by
        have := List.append_cancel_left hst.out
        exact WideShapes.bytes_inj this.symm
      subst hend
      clear hst
      go_wp2_with (refine (rest_any st B wr HCU.out).mono ?_; rintro e w' ⟨rfl, rfl⟩)
      go_ret
      exact ⟨rfl, HBE.out⟩
end Go.Proofs.YtilbmbddocimkaaDoor
