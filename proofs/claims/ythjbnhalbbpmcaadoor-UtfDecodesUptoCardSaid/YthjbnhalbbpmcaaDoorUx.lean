/-
  The characters of all bytes, or the refusal; new memory each time: the walk of the statement.
-/
import Derived.Test.YthjbnhalbbpmcaaDoorUa
import Derived.Test.YthjbnhalbbpmcaaDoorUh
namespace Go.Proofs.YthjbnhalbbpmcaaDoor
open Go.RowKit

theorem ownI_open {w : World} {B : Nat} {v : Value} {l : List Int} (h : OwnI w B v l) : ∃ g a cap, v = .slice a l.length cap ∧ (0 < l.length → a = some ⟨g, 0, none⟩ ∧ g < w.heap.size) ∧ B ≤ g ∧ ∀ j (_ : j < l.length), w.cell? ⟨g, j, none⟩ = some (.int .i64 l[j]) ∧ w.frozen? ⟨g, j, none⟩ = false := by
  have hown : w.ownsRow B 3 1 v l.length (intsV l) := h
  rcases h.2 with ⟨rfl, h0⟩ | ⟨g, cap, cur, rfl, hg, hh, hnc, hcp, hcs, htake⟩
  · exact ⟨B, none, 0, by rw [h0], fun h => by omega, Nat.le_refl _, fun j hj => by omega⟩
  · refine ⟨g, _, _, rfl, fun h => ⟨rfl, (hown.lt g rfl).2⟩, hg, fun j hj => ⟨?_, ?_⟩⟩
    · rw [hown.cellAt j (by omega)]
      simp [intsV, hj]
    · simp [World.frozen?, hh]

theorem ownI_base {w : World} {B : Nat} {v : Value} {l : List Int} (h : OwnI w B v l) : ∀ k, v.ownBlock = some k → B ≤ k := fun k hk =>
  (World.ownsRow.lt (show w.ownsRow B 3 1 v l.length (intsV l) from h) k hk).1

set_option maxRecDepth 100000 in
set_option maxHeartbeats 4000000 in
theorem decodes_walk (w : World) (s : ByteArray) (hs : s.size ≤ 1048576) (hT : Tabs w) :
    Calls Tryd.prog 4 #[.string s] w fun e w' => e = .returned (.bool true) ∧ Below w.heap.size w w' := by
  have hd1 : Hid (∀ W, Below w.heap.size w W → Calls Tryd.prog 13 #[.string s] W (DecPost W s.data.toList)) := fun W hb => decode_any W s (hT.below hb) (by omega)
  have hd2 : Hid (∀ W, Calls Tryd.prog 14 #[.string s] W (DecPost W s.data.toList)) := fun W => decodeR_any W s (by omega)
  have h0 : Hid (∀ W, Below w.heap.size w W → Calls Tryd.prog 11 #[] W fun e' w' => e' = .returned (.bool true) ∧ Below W.heap.size W w') := fun W hb => awake_any W (hT.below hb)
  have hlen := Ut.decS_length s.data.toList
  rw [show s.data.toList.length = s.size from by simp] at hlen
  have hn : Hid (∀ (W : World) (u v : Value), IntS W u (Ut.decS s.data.toList) → IntS W v (Ut.decS s.data.toList) → Calls Tryd.prog 12 #[u, v] W fun e' w' => e' = .returned (.bool true) ∧ Below W.heap.size W w') := fun W u v hu hv => by
    have h := numbers_any W u v _ _ hu hv (by omega) (by omega)
    rw [decide_eq_true rfl] at h
    exact h
  unfold DecPost at hd1 hd2
  generalize Ut.decE s.data.toList = E at *
  generalize Ut.decS s.data.toList = L at *
  have hE : (E != E) = false := by simp
  clear hT
  go_enter Tryd.func4, Tryd.ntmps4
  go_wp2_with fail
  refine (hd1.out w (Below.refl _ _)).mono ?_
  rintro e w1 ⟨va, rfl, ha, hb1⟩
  have HB1 := Lib.hid hb1
  have HA := Lib.hid ha
  obtain ⟨g, a, ca, rfl, ha1, ha2, ha3⟩ := ownI_open ha
  have HA3 := Lib.hid (And.intro ha1 (And.intro ha2 ha3))
  clear hb1 ha ha1 ha2 ha3
  go_wp2_with fail
  refine (hd2.out w1).mono ?_
  rintro e w2 ⟨vb, rfl, hbo, hb2⟩
  have HB2 := Lib.hid hb2
  have HO2 := Lib.hid hbo
  obtain ⟨b, cb, rfl, _⟩ := ownI_cells hbo
  clear hb2 hbo
  go_wp2_with fail
  refine (hd1.out w2 (HB1.out.trans (HB2.out.mono HB1.out.size))).mono ?_
  rintro e w3 ⟨vc, rfl, hco, hb3⟩
  have HB3 := Lib.hid hb3
  have HO3 := Lib.hid hco
  obtain ⟨c, cc, rfl, _⟩ := ownI_cells hco
  clear hb3 hco
  have HW3 : Hid (Below w.heap.size w w3) := (HB1.out.trans (HB2.out.mono HB1.out.size)).trans (HB3.out.mono (Nat.le_trans HB1.out.size HB2.out.size))
  have H13 : Hid (Below w1.heap.size w1 w3) := HB2.out.trans (HB3.out.mono HB2.out.size)
  go_wp2_with fail
  refine (h0.out w3 HW3.out).mono ?_
  rintro e w4 ⟨rfl, hb4⟩
  have HW4 : Hid (Below w.heap.size w w4) := HW3.out.trans (hb4.mono HW3.out.size)
  have H14 : Hid (Below w1.heap.size w1 w4) := H13.out.trans (hb4.mono H13.out.size)
  have HOA4 : Hid (OwnI w4 w.heap.size (.slice a L.length ca) L) := HA.out.keep H14.out (Nat.le_refl _)
  have HOB4 : Hid (OwnI w4 w1.heap.size (.slice b L.length cb) L) := (HO2.out.keep HB3.out (Nat.le_refl _)).keep hb4 (Nat.le_refl _)
  have HOC4 : Hid (OwnI w4 w2.heap.size (.slice c L.length cc) L) := HO3.out.keep hb4 (Nat.le_refl _)
  clear hb4 HO2 HO3 HA HB3 H13 HW3
  go_wp2_with fail
  refine (hn.out w4 _ _ (HOA4.out.ints (by omega)) (HOB4.out.ints (by omega))).mono ?_
  rintro e w5 ⟨rfl, hb5⟩
  have HW5 : Hid (Below w.heap.size w w5) := HW4.out.trans (hb5.mono HW4.out.size)
  have H15 : Hid (Below w1.heap.size w1 w5) := H14.out.trans (hb5.mono H14.out.size)
  have HOB5 : Hid (OwnI w5 w1.heap.size (.slice b L.length cb) L) := HOB4.out.keep hb5 (Nat.le_refl _)
  have HOC5 : Hid (OwnI w5 w2.heap.size (.slice c L.length cc) L) := HOC4.out.keep hb5 (Nat.le_refl _)
  have HCA : Hid (∀ j, j < L.length → (∃ z, w5.cell? ⟨g, j, none⟩ = some (.int .i64 z)) ∧ w5.frozen? ⟨g, j, none⟩ = false) := by
    intro j hj
    obtain ⟨h1, h2, h3⟩ := HA3.out
    have hg := (h1 (by omega)).2
    exact ⟨⟨_, (H15.out.cell (p := ⟨g, j, none⟩) hg).trans (h3 j hj).1⟩, (H15.out.frozen (p := ⟨g, j, none⟩) hg).trans (h3 j hj).2⟩
  have HA2 : Hid ((0 < L.length → a = some ⟨g, 0, none⟩ ∧ g < w1.heap.size) ∧ w.heap.size ≤ g) := ⟨HA3.out.1, HA3.out.2.1⟩
  have H12 := Lib.hid HB2.out.size
  clear HA3 hb5 HOA4 HOB4 HOC4 H14 H15 HW4 HB2 hd1 hd2 h0 HB1
  obtain ⟨n, hnl⟩ : ∃ n, n = L.length := ⟨_, rfl⟩
  have HN := Lib.hid hnl
  rw [← hnl] at HCA HA2 HOB5 HOC5 hlen ⊢
  clear hnl
  go_wp2_with fail
  go_loopg [9] n (fun gg i wx => ∃ k : Nat, k ≤ n ∧ gg = n - k ∧ i = .int .i64 k ∧ Hid (∀ bb, w1.heap.size ≤ bb → wx.heap[bb]? = w5.heap[bb]?) ∧ Hid (∀ j, j < n → (∃ z, wx.cell? ⟨g, j, none⟩ = some (.int .i64 z)) ∧ wx.frozen? ⟨g, j, none⟩ = false) ∧ Below w.heap.size w wx)
  case atStart => exact ⟨0, Nat.zero_le _, rfl, rfl, fun _ _ => rfl, HCA.out, HW5.out⟩
  case round =>
    obtain ⟨k, hk, rfl, rfl, hsame, hcells, hbel⟩ := hrel
    by_cases hkn : k < n
    · have i1 : (k : Int) < (n : Int) := by omega
      have i0 : (0 : Int) ≤ (k : Int) := by omega
      obtain ⟨h1, h2⟩ := HA2.out
      obtain ⟨rfl, hg⟩ := h1 (by omega)
      obtain ⟨⟨z, c1⟩, f1⟩ := hcells.out k hkn
      have hn1 : Hid (∀ bb, w1.heap.size ≤ bb → (wr.setCell ⟨g, k, none⟩ (.int .i64 (-1))).heap[bb]? = w5.heap[bb]?) := fun bb hbb => (Below.heap_setCell wr ⟨g, k, none⟩ (.int .i64 (-1)) bb (by show bb ≠ g; omega)).trans (hsame.out bb hbb)
      have hn2 : Hid (∀ j, j < n → (∃ z, (wr.setCell ⟨g, k, none⟩ (.int .i64 (-1))).cell? ⟨g, j, none⟩ = some (.int .i64 z)) ∧ (wr.setCell ⟨g, k, none⟩ (.int .i64 (-1))).frozen? ⟨g, j, none⟩ = false) := by
        intro j hj
        obtain ⟨⟨z', c2⟩, f2⟩ := hcells.out j hj
        refine ⟨?_, (World.frozen?_setCell _ _ _ _).trans f2⟩
        by_cases hjk : j = k
        · subst hjk
          exact ⟨_, World.cell?_setCell_same _ _ _ c2⟩
        · exact ⟨z', (World.cell?_setCell_other _ _ _ _ (show (⟨g, k, none⟩ : Addr) ≠ ⟨g, j, none⟩ from fun e => hjk (by injection e with e1 e2; exact e2.symm))).trans c2⟩
      have hn3 : Hid (Below w.heap.size w (wr.setCell ⟨g, k, none⟩ (.int .i64 (-1)))) := hbel.setCell (p := ⟨g, k, none⟩) h2 _
      clear hsame hcells hbel h1 h2 hg
      go_wp2_with fail
      go_roundg (n - (k + 1))
      case rel => exact ⟨k + 1, by omega, rfl, by go_num, hn1, hn2, hn3.out⟩
      case measure => omega
    · have i1 : ¬ (k : Int) < (n : Int) := by omega
      have HOBx : Hid (OwnI wr w1.heap.size (.slice b n cb) L) := HOB5.out.of_heap fun kk hk' _ => hsame.out kk (ownI_base HOB5.out kk hk')
      have HOCx : Hid (OwnI wr w2.heap.size (.slice c n cc) L) := HOC5.out.of_heap fun kk hk' _ => hsame.out kk (Nat.le_trans H12.out (ownI_base HOC5.out kk hk'))
      have hl : L.length ≤ 140737488355328 := by rw [← HN.out]; omega
      have hcall := Lib.hid (hn.out wr _ _ (HOCx.out.ints hl) (HOBx.out.ints hl))
      have HBX := Lib.hid hbel
      clear hsame hcells hbel HOBx HOCx hl
      go_wp2_with fail
      refine hcall.out.mono ?_
      rintro e w6 ⟨rfl, hb6⟩
      have HB6 : Hid (Below w.heap.size w w6) := HBX.out.trans (hb6.mono HBX.out.size)
      clear hb6
      go_wp2_with fail
      go_ret
      exact ⟨rfl, HB6.out⟩
end Go.Proofs.YthjbnhalbbpmcaaDoor
