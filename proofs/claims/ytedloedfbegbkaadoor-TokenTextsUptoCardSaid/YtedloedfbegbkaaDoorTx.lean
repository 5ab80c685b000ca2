/-
  The terms of every text, the term of one, the folded characters, or the refusals; new memory each time: the walk of the statement.
-/
import Derived.Test.YtedloedfbegbkaaDoorTb
namespace Go.Proofs.YtedloedfbegbkaaDoor
open Go.RowKit

/-- What the loop keeps: the cells of the first list are there to be written, and other blocks stay. -/
structure KeptB (w5 wx : World) (g n : Nat) : Prop where
  same : ∀ bb, bb ≠ g → wx.heap[bb]? = w5.heap[bb]?
  cells : ∀ j, j < n → (∃ z, wx.cell? ⟨g, j * 2, none⟩ = some z) ∧ (∃ z, wx.cell? ⟨g, j * 2 + 1, none⟩ = some z) ∧ ∀ k, wx.frozen? ⟨g, k, none⟩ = false
theorem cell_some_set (wx : World) (g p q : Nat) (v : Value) (h : ∃ z, wx.cell? ⟨g, q, none⟩ = some z) : ∃ z, (wx.setCell ⟨g, p, none⟩ v).cell? ⟨g, q, none⟩ = some z := by
  obtain ⟨z, hz⟩ := h
  by_cases e : q = p
  · subst e
    exact ⟨_, World.cell?_setCell_same _ _ _ hz⟩
  · exact ⟨z, (World.cell?_setCell_other _ _ _ _ (show (⟨g, p, none⟩ : Addr) ≠ ⟨g, q, none⟩ from fun h => e (by injection h with h1 h2; exact h2.symm))).trans hz⟩
theorem KeptB.set {w5 wx : World} {g n : Nat} (h : KeptB w5 wx g n) (p : Nat) (v : Value) : KeptB w5 (wx.setCell ⟨g, p, none⟩ v) g n :=
  ⟨fun bb hbb => (Below.heap_setCell wx ⟨g, p, none⟩ v bb (by show bb ≠ g; exact hbb)).trans (h.same bb hbb), fun j hj =>
    ⟨cell_some_set wx g p _ v (h.cells j hj).1, cell_some_set wx g p _ v (h.cells j hj).2.1, fun k => (World.frozen?_setCell _ _ _ _).trans ((h.cells j hj).2.2 k)⟩⟩

set_option maxRecDepth 100000 in
set_option maxHeartbeats 4000000 in
theorem texts_walk (w : World) (s : ByteArray) (hs : s.size ≤ 1048576) (hT : Tabs w) : Calls Tryd.prog 3 #[.string s] w fun e w' => e = .returned (.bool true) ∧ Below w.heap.size w w' := by
  have HTa : Hid (∀ W, Below w.heap.size w W → Calls Tryd.prog 6 #[.string s] W (TokPost W s.data.toList)) := fun W hb => tokens_any W s (hT.below hb)
  have HTr : Hid (∀ W, Calls Tryd.prog 7 #[.string s] W (TokPost W s.data.toList)) := fun W => tokensR_any W s
  have HOa : Hid (∀ W, Below w.heap.size w W → Calls Tryd.prog 8 #[.string s] W (OnePost W s.data.toList)) := fun W hb => term_any W s (hT.below hb)
  have HOr : Hid (∀ W, Calls Tryd.prog 9 #[.string s] W (OnePost W s.data.toList)) := fun W => termR_any W s
  have HFa : Hid (∀ W, Below w.heap.size w W → Calls Tryd.prog 10 #[.string s] W (FoldPost W s.data.toList)) := fun W hb => folded_any W s (hT.below hb) (by omega)
  have HFr : Hid (∀ W, Calls Tryd.prog 11 #[.string s] W (FoldPost W s.data.toList)) := fun W => foldedR_any W s (by omega)
  have HAw : Hid (∀ W, Below w.heap.size w W → Calls Tryd.prog 12 #[] W fun e' w' => e' = .returned (.bool true) ∧ Below W.heap.size W w') := fun W hb => awakeT_any W (hT.below hb)
  have hfl : ((Ut.decS s.data.toList).map Ut.fold).length ≤ 1048576 := by
    rw [List.length_map]
    have := Ut.decS_length s.data.toList
    rw [show s.data.toList.length = s.size from by simp] at this
    omega
  unfold TokPost at HTa HTr
  unfold OnePost at HOa HOr
  unfold FoldPost at HFa HFr
  generalize Ut.tokE s.data.toList = E at *
  generalize Ut.tokS s.data.toList = X at *
  generalize Ut.oneE s.data.toList = E1 at *
  generalize (⟨(Ut.oneS s.data.toList).toArray⟩ : ByteArray) = S1 at *
  generalize Ut.decE s.data.toList = E2 at *
  generalize (Ut.decS s.data.toList).map Ut.fold = F at *
  have HSa : Hid (∀ W u v, TkS W u (Ut.toks X) → TkS W v (Ut.toks X) → Calls Tryd.prog 13 #[u, v] W fun e' w' => e' = .returned (.bool true) ∧ Below W.heap.size W w') := fun W u v hu hv => by
    have h := same_any W u v _ _ hu hv
    rw [decide_eq_true rfl] at h
    exact h
  have HNu : Hid (∀ (W : World) (u v : Value), IntS W u F → IntS W v F → Calls Tryd.prog 14 #[u, v] W fun e' w' => e' = .returned (.bool true) ∧ Below W.heap.size W w') := fun W u v hu hv => by
    have h := numbers_any W u v _ _ hu hv (by omega) (by omega)
    rw [decide_eq_true rfl] at h
    exact h
  have e1 : (E != E) = false := by simp
  have e2 : (E1 != E1) = false := by simp
  have e3 : (E2 != E2) = false := by simp
  have e4 : (S1.toList == S1.toList) = true := by simp
  clear hT
  go_enter Tryd.func3, Tryd.ntmps3
  go_wp2_with fail
  refine (HTa.out w (Below.refl _ _)).mono ?_
  rintro e w1 ⟨va, rfl, hoa, hb1⟩
  have HW1 := Lib.hid hb1
  have HA1 := Lib.hid hoa
  obtain ⟨g, a, ca, rfl, _, _, hga, hgB, _⟩ := hoa.opened
  have HG := Lib.hid (And.intro hga hgB)
  clear hb1 hoa hga hgB
  go_wp2_with fail
  refine (HTr.out w1).mono ?_
  rintro e w2 ⟨vb, rfl, hob, hb2⟩
  have H2 := Lib.hid hb2
  have HW2 : Hid (Below w.heap.size w w2) := HW1.out.trans (hb2.mono HW1.out.size)
  have HA2 := Lib.hid (HA1.out.keep hb2 (Nat.le_refl _))
  have HB2 := Lib.hid hob
  clear hb2 hob HA1
  go_wp2_with fail
  refine (HTa.out w2 HW2.out).mono ?_
  rintro e w3 ⟨vc, rfl, hoc, hb3⟩
  have HW3 : Hid (Below w.heap.size w w3) := HW2.out.trans (hb3.mono HW2.out.size)
  have HA3 := Lib.hid (HA2.out.keep hb3 (Nat.le_refl _))
  have HB3 := Lib.hid (HB2.out.keep hb3 (Nat.le_refl _))
  have HC3 := Lib.hid hoc
  clear hb3 hoc HA2 HB2
  go_wp2_with fail
  refine (HOa.out w3 HW3.out).mono ?_
  rintro e w4 ⟨rfl, hb4⟩
  have HW4 : Hid (Below w.heap.size w w4) := HW3.out.trans (hb4.mono HW3.out.size)
  have HA4 := Lib.hid (HA3.out.keep hb4 (Nat.le_refl _))
  have HB4 := Lib.hid (HB3.out.keep hb4 (Nat.le_refl _))
  have HC4 := Lib.hid (HC3.out.keep hb4 (Nat.le_refl _))
  clear hb4 HA3 HB3 HC3
  go_wp2_with fail
  refine (HOr.out w4).mono ?_
  rintro e w5 ⟨rfl, hb5⟩
  have HW5 : Hid (Below w.heap.size w w5) := HW4.out.trans (hb5.mono HW4.out.size)
  have HA5 := Lib.hid (HA4.out.keep hb5 (Nat.le_refl _))
  have HB5 := Lib.hid (HB4.out.keep hb5 (Nat.le_refl _))
  have HC5 := Lib.hid (HC4.out.keep hb5 (Nat.le_refl _))
  clear hb5 HA4 HB4 HC4
  go_wp2_with fail
  refine (HFa.out w5 HW5.out).mono ?_
  rintro e w6 ⟨vl, rfl, hol, hb6⟩
  have HW6 : Hid (Below w.heap.size w w6) := HW5.out.trans (hb6.mono HW5.out.size)
  have HA6 := Lib.hid (HA5.out.keep hb6 (Nat.le_refl _))
  have HB6 := Lib.hid (HB5.out.keep hb6 (Nat.le_refl _))
  have HC6 := Lib.hid (HC5.out.keep hb6 (Nat.le_refl _))
  have HL6 := Lib.hid hol
  clear hb6 hol HA5 HB5 HC5
  go_wp2_with fail
  refine (HFr.out w6).mono ?_
  rintro e w7 ⟨vm, rfl, hom, hb7⟩
  have HW7 : Hid (Below w.heap.size w w7) := HW6.out.trans (hb7.mono HW6.out.size)
  have HA7 := Lib.hid (HA6.out.keep hb7 (Nat.le_refl _))
  have HB7 := Lib.hid (HB6.out.keep hb7 (Nat.le_refl _))
  have HC7 := Lib.hid (HC6.out.keep hb7 (Nat.le_refl _))
  have HL7 := Lib.hid (HL6.out.keep hb7 (Nat.le_refl _))
  have HM7 := Lib.hid hom
  clear hb7 hom HA6 HB6 HC6 HL6
  go_wp2_with fail
  refine (HAw.out w7 HW7.out).mono ?_
  rintro e w8 ⟨rfl, hb8⟩
  have HW8 : Hid (Below w.heap.size w w8) := HW7.out.trans (hb8.mono HW7.out.size)
  have HA8 := Lib.hid (HA7.out.keep hb8 (Nat.le_refl _))
  have HB8 := Lib.hid (HB7.out.keep hb8 (Nat.le_refl _))
  have HC8 := Lib.hid (HC7.out.keep hb8 (Nat.le_refl _))
  have HL8 := Lib.hid (HL7.out.keep hb8 (Nat.le_refl _))
  have HM8 := Lib.hid (HM7.out.keep hb8 (Nat.le_refl _))
  clear hb8 HA7 HB7 HC7 HL7 HM7
  go_wp2_with fail
  refine (HSa.out w8 _ _ HA8.out.tks HB8.out.tks).mono ?_
  rintro e w9 ⟨rfl, hb9⟩
  have HW9 : Hid (Below w.heap.size w w9) := HW8.out.trans (hb9.mono HW8.out.size)
  have HA9 := Lib.hid (HA8.out.keep hb9 (Nat.le_refl _))
  have HB9 := Lib.hid (HB8.out.keep hb9 (Nat.le_refl _))
  have HC9 := Lib.hid (HC8.out.keep hb9 (Nat.le_refl _))
  have HL9 := Lib.hid (HL8.out.keep hb9 (Nat.le_refl _))
  have HM9 := Lib.hid (HM8.out.keep hb9 (Nat.le_refl _))
  clear hb9 HA8 HB8 HC8 HL8 HM8
  go_wp2_with fail
  refine (HNu.out w9 _ _ (HL9.out.ints (by omega)) (HM9.out.ints (by omega))).mono ?_
  rintro e w10 ⟨rfl, hb10⟩
  have HW10 : Hid (Below w.heap.size w w10) := HW9.out.trans (hb10.mono HW9.out.size)
  have HA10 := Lib.hid (HA9.out.keep hb10 (Nat.le_refl _))
  have HB10 := Lib.hid (HB9.out.keep hb10 (Nat.le_refl _))
  have HC10 := Lib.hid (HC9.out.keep hb10 (Nat.le_refl _))
  clear hb10 HA9 HB9 HC9 HL9 HM9
  go_wp2_with fail
  have HBx : Hid (∀ wx, (∀ bb, bb ≠ g → wx.heap[bb]? = w10.heap[bb]?) → 0 < (Ut.toks X).length → TkS wx vb (Ut.toks X) ∧ TkS wx vc (Ut.toks X)) := fun wx hsame h0 => by
    have hg1 := (HG.out.1 h0).2
    have h12 := H2.out.size
    exact ⟨(HB10.out.of_heap fun k _ hk _ => hsame k (by omega)).tks, (HC10.out.of_heap fun k _ hk _ => hsame k (by omega)).tks⟩
  have hcells : KeptB w10 w10 g (Ut.toks X).length := ⟨fun _ _ => rfl, fun j hj => by
    obtain ⟨g', a', c', h1, _, _, h2, _, h3⟩ := HA10.out.opened
    have e1 : a = some ⟨g', 0, none⟩ := by
      simp only [Value.slice.injEq] at h1
      rw [h1.1]
      exact (h2 (by omega)).1
    have e2 := (HG.out.1 (by omega)).1
    rw [e1] at e2
    obtain rfl : g' = g := by simpa using e2
    obtain ⟨c1, c2, c3⟩ := h3 j hj
    exact ⟨⟨_, c1⟩, ⟨_, c2⟩, c3⟩⟩
  have HK := Lib.hid hcells
  clear hcells HA10
  have hnn : (Ut.toks X).length ≤ 9223372036854775807 := by
    obtain ⟨_, _, _, _, h1, h2, _⟩ := HB10.out.opened
    omega
  obtain ⟨n, hn⟩ : ∃ n, n = (Ut.toks X).length := ⟨_, rfl⟩
  have HN := Lib.hid hn
  rw [← hn] at HG HBx HK hnn ⊢
  clear hn
  go_loopg [17] n (fun gg iv wx => ∃ k : Nat, k ≤ n ∧ gg = n - k ∧ iv = .int .i64 (k : Int) ∧ KeptB w10 wx g n ∧ Below w.heap.size w wx)
  case atStart => exact ⟨0, Nat.zero_le _, rfl, rfl, HK.out, HW10.out⟩
  case round =>
    obtain ⟨k, hk, rfl, rfl, hkept, hbel⟩ := hrel
    have HKE := Lib.hid hkept
    have HBE := Lib.hid hbel
    by_cases hkn : k < n
    · have i1 : (k : Int) < (n : Int) := by omega
      have i0 : (0 : Int) ≤ (k : Int) := by omega
      obtain rfl := (HG.out.1 (by omega)).1
      obtain ⟨⟨x1, c1⟩, ⟨x2, c2⟩, hf⟩ := hkept.cells k hkn
      have f1 := hf (k * 2)
      have f2 := hf (k * 2 + 1)
      have HK2 : Hid (KeptB w10 ((wr.setCell ⟨g, k * 2, none⟩ (.string ⟨#[120]⟩)).setCell ⟨g, k * 2 + 1, none⟩ (.int .i64 0)) g n) := (hkept.set _ _).set _ _
      have HB2 : Hid (Below w.heap.size w ((wr.setCell ⟨g, k * 2, none⟩ (.string ⟨#[120]⟩)).setCell ⟨g, k * 2 + 1, none⟩ (.int .i64 0))) := (hbel.setCell (p := ⟨g, k * 2, none⟩) HG.out.2 _).setCell (p := ⟨g, k * 2 + 1, none⟩) HG.out.2 _
      clear hf hkept hbel
      go_wp2_with fail
      go_roundg (n - (k + 1))
      case rel => exact ⟨k + 1, by omega, rfl, by go_num, HK2.out, HB2.out⟩
      case measure => omega
    · have i1 : ¬ (k : Int) < (n : Int) := by omega
      have hcall : Hid (Calls Tryd.prog 13 #[vc, vb] wr fun e' w' => e' = .returned (.bool true) ∧ Below wr.heap.size wr w') := by
        by_cases h0 : 0 < n
        · obtain ⟨h1, h2⟩ := HBx.out wr hkept.same h0
          exact HSa.out wr _ _ h2 h1
        · have hX : Ut.toks X = [] := List.length_eq_zero_iff.1 (by rw [← HN.out]; omega)
          obtain ⟨_, b1, cb, hb1, hb2, hb3, _⟩ := HB10.out.opened
          obtain ⟨_, c1, cc, hc1, hc2, hc3, _⟩ := HC10.out.opened
          have hz : (Ut.toks X).length = 0 := by rw [hX]; rfl
          exact HSa.out wr _ _ ⟨c1, cc, hc1, hc2, hc3, fun h => by omega⟩ ⟨b1, cb, hb1, hb2, hb3, fun h => by omega⟩
      clear hkept hbel
      go_wp2_with fail
      refine hcall.out.mono ?_
      rintro e w11 ⟨rfl, hb11⟩
      have HB11 : Hid (Below w.heap.size w w11) := HBE.out.trans (hb11.mono HBE.out.size)
      clear hb11
      go_wp2_with fail
      go_ret
      exact ⟨rfl, HB11.out⟩
end Go.Proofs.YtedloedfbegbkaaDoor
