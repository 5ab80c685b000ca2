/-
  What Folded answers, the program's and the document's own: all characters, each folded, in new memory, or the refusal.
-/
import Derived.Test.YtedloedfbegbkaaDoorTu
namespace Go.Proofs.YtedloedfbegbkaaDoor
open Go.RowKit

/-- What Folded answers. -/
def FoldPost (w : World) (l : List UInt8) (e : Ending) (w' : World) : Prop :=
  ∃ v, e = .returned (.tuple #[v, .int .i64 (Ut.decE l)]) ∧ OwnI w' w.heap.size v ((Ut.decS l).map Ut.fold) ∧ Below w.heap.size w w'
theorem OwnI.base {w : World} {B C : Nat} {v : Value} {l : List Int} (h : OwnI w B v l) (hC : C ≤ B) : OwnI w C v l := by
  refine ⟨h.1, ?_⟩
  rcases h.2 with h1 | ⟨g, cap, cur, h1, hg, hr⟩
  · exact .inl h1
  · exact .inr ⟨g, cap, cur, h1, Nat.le_trans hC hg, hr⟩

set_option maxRecDepth 100000 in
set_option maxHeartbeats 2000000 in
theorem folded_any (w : World) (s : ByteArray) (hT : Tabs w) (hs : s.size ≤ 17592186044415) : Calls Tryd.prog 10 #[.string s] w (FoldPost w s.data.toList) := by
  have hd := decode_any w s hT (by omega)
  have hln := Ut.decS_length s.data.toList
  rw [show s.data.toList.length = s.size from by simp] at hln
  have hno : ¬ Ut.decE s.data.toList = 0 → Ut.decS s.data.toList = [] := by
    intro h
    cases hv : Lib.validD s.data.toList
    · exact Ut.decS_no hv
    · exact absurd (Ut.decE_yes hv) h
  unfold DecPost at hd
  unfold FoldPost
  generalize Ut.decE s.data.toList = E at *
  generalize Ut.decS s.data.toList = L at *
  have HD := Lib.hid hd
  clear hd hT
  by_cases h0 : E = 0
  · subst h0
    clear hno
    go_enter Tryd.func10, Tryd.ntmps10
    go_wp2_with fail
    refine HD.out.mono ?_
    rintro e w1 ⟨v, rfl, hown, hb⟩
    have hF := Lib.hid (foldedOf_any w1 v L (hown.ints (by omega)) (by omega))
    have HB := Lib.hid hb
    clear hown hb
    go_wp2_with fail
    refine hF.out.mono ?_
    rintro e w2 ⟨v2, rfl, hown2, hb2⟩
    have HO2 : Hid (OwnI w2 w.heap.size v2 (L.map Ut.fold)) := hown2.base HB.out.size
    have HB2 : Hid (Below w.heap.size w w2) := HB.out.trans (hb2.mono HB.out.size)
    clear hown2 hb2
    go_wp2_with fail
    go_ret2
    exact ⟨_, rfl, HO2.out, HB2.out⟩
  · have h1 : (E != 0) = true := by simpa using h0
    have HN := Lib.hid (hno h0)
    clear hno
    go_enter Tryd.func10, Tryd.ntmps10
    go_wp2_with fail
    refine HD.out.mono ?_
    rintro e w1 ⟨v, rfl, _, hb⟩
    have HB := Lib.hid hb
    clear hb
    go_wp2_with fail
    go_ret2
    exact ⟨_, rfl, by rw [HN.out]; exact World.ownsRow_nil _ _ _ _, HB.out⟩

set_option maxRecDepth 100000 in
set_option maxHeartbeats 2000000 in
theorem foldedR_any (w : World) (s : ByteArray) (hs : s.size ≤ 17592186044415) : Calls Tryd.prog 11 #[.string s] w (FoldPost w s.data.toList) := by
  have hd := decodeR_any w s hs
  have hln := Ut.decS_length s.data.toList
  rw [show s.data.toList.length = s.size from by simp] at hln
  unfold DecPost at hd
  unfold FoldPost
  generalize Ut.decE s.data.toList = E at *
  generalize Ut.decS s.data.toList = L at *
  have HD := Lib.hid hd
  have HFo : Hid (∀ (c : Int) (W : World), Calls Tryd.prog 22 #[.int .i64 c] W fun e w' => e = .returned (.int .i64 (Ut.fold c)) ∧ Below W.heap.size W w') := foldR_any
  clear hd
  go_enter Tryd.func11, Tryd.ntmps11
  go_wp2_with fail
  refine HD.out.mono ?_
  rintro e w1 ⟨v, rfl, hown, hb⟩
  have HB := Lib.hid hb
  have hI := hown.ints (by omega)
  obtain ⟨a0, c0, rfl, _, _, hcl⟩ := hI
  have HG := Lib.hid hcl
  clear hb hown HD hcl
  obtain ⟨n, hn⟩ : ∃ n, n = L.length := ⟨_, rfl⟩
  have HN := Lib.hid hn
  rw [← hn] at hln ⊢
  clear hn
  go_wp2_with fail
  go_loopg [6, 7] n (fun gg ov iv wx => ∃ i : Nat, i ≤ n ∧ gg = n - i ∧ iv = .int .i64 (i : Int) ∧ OwnI wx w1.heap.size ov ((L.take i).map Ut.fold) ∧ Below w1.heap.size w1 wx)
  case atStart => exact ⟨0, Nat.zero_le _, rfl, rfl, by rw [List.take_zero]; exact World.ownsRow_nil _ _ _ _, Below.refl _ _⟩
  case round =>
    obtain ⟨i, hi, rfl, rfl, hown, hb1⟩ := hrel
    by_cases hin : i < n
    · have i2 : (i : Int) < (n : Int) := by omega
      have ix : i < L.length := by rw [← HN.out]; exact hin
      obtain ⟨g, o, rfl, hg, hcell⟩ := HG.out (by omega)
      have c1 : wr.cell? ⟨g, o + i, none⟩ = some (.int .i64 L[i]) := (hb1.cell (p := ⟨g, o + i, none⟩) hg).trans (hcell i ix)
      have hF := Lib.hid (HFo.out L[i] wr)
      have hst : (L.take i).map Ut.fold ++ [Ut.fold L[i]] = (L.take (i + 1)).map Ut.fold := by
        rw [List.take_succ_eq_append_getElem ix, List.map_append]
        rfl
      have hll : ((L.take i).map Ut.fold).length ≤ i := by rw [List.length_map]; exact List.length_take_le _ _
      generalize (L.take i).map Ut.fold = acc at *
      generalize Ut.fold L[i] = d at *
      generalize L[i] = ci at *
      have HST := Lib.hid hst
      have HO := Lib.hid hown
      have HBB := Lib.hid hb1
      clear hst hown hb1 hcell
      obtain ⟨a6, c6, rfl, _⟩ := ownI_cells HO.out
      go_wp2_with fail
      refine hF.out.mono ?_
      rintro e w2 ⟨rfl, hb2⟩
      have HO2 := Lib.hid (HO.out.keep hb2 (Nat.le_refl _))
      have HB2 : Hid (Below w1.heap.size w1 w2) := HBB.out.trans (hb2.mono HBB.out.size)
      have HZ := Lib.hid HB2.out.size
      clear hb2
      go_wp2_with (at_builtin; go_loud ((refine wpList_pushI rfl _ _ rfl w1.heap.size HZ.out (.slice a6 acc.length c6) acc d rfl HO2.out rfl (by omega) ?_; intro v5 w5 hown5 hb5 _)))
      have HO5 : Hid (OwnI w5 w1.heap.size v5 ((L.take (i + 1)).map Ut.fold)) := by show OwnI _ _ _ _; rw [← HST.out]; exact hown5
      have HB5 : Hid (Below w1.heap.size w1 w5) := HB2.out.trans hb5
      clear hown5 hb5
      go_wp2_with fail
      go_roundg (n - (i + 1))
      case rel => exact ⟨i + 1, by omega, rfl, by go_num, HO5.out, HB5.out⟩
      case measure => omega
    · have i2 : ¬ (i : Int) < (n : Int) := by omega
      have HO5 : Hid (OwnI wr w.heap.size u6 (L.map Ut.fold)) := by
        show OwnI _ _ _ _
        rw [List.take_of_length_le (by rw [← HN.out]; omega)] at hown
        exact hown.base HB.out.size
      have HB5 : Hid (Below w.heap.size w wr) := HB.out.trans (hb1.mono HB.out.size)
      clear hown hb1
      go_wp2_with fail
      go_ret2
      exact ⟨_, rfl, HO5.out, HB5.out⟩
end Go.Proofs.YtedloedfbegbkaaDoor
