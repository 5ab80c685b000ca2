/-
  Three lists as postings: the program's posts.
-/
import Derived.Test.YtokdjaljeckghaaPo
namespace Go.Proofs.Ytokdjaljeckghaa
open Go.RowKit
namespace Pt
theorem cut_cons (m : Nat) (b : List Nat) (c : List Int) : cut (m :: b) c = if c.length < m then none else (cut b (c.drop m)).map fun t => sm 0 (c.take m) :: t := rfl
theorem cut_nil (c : List Int) : cut [] c = if c = [] then some [] else none := rfl
/-- Whether three lists fit. -/
def fit (a : List Int) (b : List Nat) (c : List Int) : Bool := decide (a.length = b.length) && (cut b c).isSome
end Pt
theorem PRow.at2 {w : World} {B b n : Nat} {d : List Pt.Po} {vs : List Value} (h : PRow w B b n d vs) (i j : Nat) (v : Value) (hj : j < n * 2) : (∃ u, (w.setCell ⟨b, i, none⟩ v).cell? ⟨b, j, none⟩ = some u) ∧ (w.setCell ⟨b, i, none⟩ v).frozen? ⟨b, j, none⟩ = false := by
  obtain ⟨c, h1, h2, _⟩ := h.blk
  have h3 := heap_set w b i v c _ _ h1
  refine ⟨⟨(c.setIfInBounds i v)[j]'(by simp; omega), ?_⟩, by simp [World.frozen?, h3]⟩
  simp [World.cell?, h3, show j < c.size by omega]
theorem sums_call (w : World) (v : Value) (l : List Int) (h : IntS w v l) (hn : l.length ≤ 1073741824) (m N : Nat) (hm : m = l.length) (hN : w.heap.size = N) :
    Calls Try.prog 53 #[v] w fun e w' => ∃ u, e = .returned u ∧ (u = .slice (some ⟨N, 0, none⟩) m m ∧ RowI w' N m (fun j => (sm 0 l).getD j 0) ∧ Below w.heap.size w w') := by
  subst hN
  refine (sums_any w v l h hn).mono ?_
  rintro e w' ⟨rfl, hR, hB⟩
  rw [sm_length, ← hm] at hR
  rw [sm_length, ← hm]
  exact ⟨_, rfl, rfl, hR, hB⟩
theorem makePo (n : Nat) (hn : n ≤ 1099511627776) (w : World) :
    (Instr.makeSlice 22 (.int .i64 (n : Int)) (.int .i64 (n : Int))).run Try.prog w = .ok (.slice (some ⟨w.heap.size, 0, none⟩) n n) (w.alloc (.cells (madeCells #[.int .i64 0, .slice none 0 0] (n * 2)) 40)) := by
  obtain ⟨ii, hi, hz0, hz1, hz2⟩ := info_parts Try.infoPo
  have h := run_make (P := Try.prog) w 22 40 ii (.agg #[.int .i64 0, .slice none 0 0]) Try.underlying22 hi hz0 .i64 .i64 (n : Int) (n : Int) (by omega) (by omega) (by rw [hz2]; omega) (by omega)
  rw [hz1, Int.toNat_natCast] at h
  exact h
theorem pRow_new (w w' : World) (B n : Nat) (hB : B ≤ w.heap.size) (hn : (w.alloc (.cells (madeCells #[.int .i64 0, .slice none 0 0] (n * 2)) 40)).heap[w.heap.size]? = w'.heap[w.heap.size]?) : PRow w' B w.heap.size n [] [] :=
  ⟨hB, ⟨_, hn.symm.trans (Go.Deep.blk_alloc_new _ _), size_madeCells .., by simp [poV]⟩, Nat.zero_le _, rfl, fun j h => absurd h (Nat.not_lt_zero j)⟩
set_option maxRecDepth 100000 in
set_option maxHeartbeats 4000000 in
theorem posts_any (w : World) (va vb vc : Value) (A C : List Int) (bN : List Nat) (hA : IntL w va A) (hB : IntL w vb (bN.map Int.ofNat)) (hC : IntL w vc C) (hAl : A.length ≤ 1073741824) (hCl : C.length ≤ 1073741824) (hb : ∀ x ∈ bN, x ≤ 9223372036854775807) :
    Calls Try.prog 34 #[.agg #[va, vb, vc]] w fun e w' => ∃ v', e = .returned (.tuple #[v', .bool (Pt.fit A bN C)]) ∧ Below w.heap.size w w' ∧
      (∀ t, A.length = bN.length → Pt.cut bN C = some t → ∃ g vs, v' = .slice (some ⟨g, 0, none⟩) A.length A.length ∧ PRow w' w.heap.size g A.length (List.zipWith Pt.Po.mk (sm 0 A) t) vs) := by
  obtain ⟨aA, cA, rfl, a1, a2, a3⟩ := id hA.1
  obtain ⟨aB, cB, hvb, b1, b2, b3⟩ := id hB.1
  obtain ⟨aC, cC, rfl, c1, c2, c3⟩ := id hC.1
  obtain ⟨n, hn⟩ : ∃ n, n = A.length := ⟨_, rfl⟩
  obtain ⟨m, hm⟩ : ∃ m, m = bN.length := ⟨_, rfl⟩
  obtain ⟨q, hq⟩ : ∃ q, q = C.length := ⟨_, rfl⟩
  rw [List.length_map, ← hm] at hvb b1
  subst hvb
  rw [← hn] at a1 hAl
  rw [← hq] at c1 hCl
  by_cases hnm : n = m
  · subst hnm
    have hmk := Lib.hid (makePo n (by omega))
    have hmk2 := hmk.out
    have HN := Lib.hid hn
    have HM := Lib.hid hm
    have HQ := Lib.hid hq
    have HA := Lib.hid hA
    have HB := Lib.hid hB
    have HC := Lib.hid hC
    rw [← hn]
    have hWB : Hid (Below w.heap.size w (w.alloc (.cells #[.slice aA n cA, .slice aB n cB, .slice aC q cC] 58))) := (Below.refl _ _).alloc (Nat.le_refl _) _
    have hbx : Hid ((w.alloc (.cells #[.slice aA n cA, .slice aB n cB, .slice aC q cC] 58)).heap[w.heap.size]? = some (.cells #[.slice aA n cA, .slice aB n cB, .slice aC q cC] 58 (0, 0))) := Go.Deep.blk_alloc_new _ _
    rw [← hn] at HA
    rw [← hq] at HC ⊢
    clear hn hm hq a3 b3 c3 hA hB hC
    go_enter Try.func34, Try.ntmps34
    go_wp2_with fail
    obtain ⟨w1, hw1⟩ : ∃ w1, w1 = w.alloc (.cells #[.slice aA n cA, .slice aB n cB, .slice aC q cC] 58) := ⟨_, rfl⟩
    rw [← hw1] at hWB hbx ⊢
    have hz1 : w1.heap.size = w.heap.size + 1 := by rw [hw1]; simp
    clear hw1
    have X0 : Hid (w1.drew.heap[w.heap.size]? = some (.cells #[.slice aA n cA, .slice aB n cB, .slice aC q cC] 58 (0, 0))) := hbx.out
    have X1 : Hid ((w1.alloc (.cells (madeCells #[.int .i64 0, .slice none 0 0] (n * 2)) 40)).drew.heap[w.heap.size]? = some (.cells #[.slice aA n cA, .slice aB n cB, .slice aC q cC] 58 (0, 0))) := (Go.Deep.blk_alloc_lt _ _ _ (blk_lt hbx.out)).trans hbx.out
    obtain ⟨x1, x2, x3, _⟩ := box_at X0.out
    obtain ⟨y1, y2, y3, _⟩ := box_at X1.out
    go_region
    clear x1 x2 x3 y1 y2 y3
    obtain ⟨w2, hw2⟩ : ∃ w2, w2 = (w1.alloc (.cells (madeCells #[.int .i64 0, .slice none 0 0] (n * 2)) 40)).drew := ⟨_, rfl⟩
    have B2 : Hid (Below w.heap.size w w2) := by show Below _ _ _; rw [hw2]; exact (hWB.out.alloc hWB.out.size _).drew
    have P2 : Hid (PRow w2 w.heap.size w1.heap.size n [] []) := pRow_new w1 w2 w.heap.size n hWB.out.size (by rw [hw2]; rfl)
    rw [← hw2] at X1 ⊢
    rw [hz1] at P2
    clear hw2 hWB hbx X0 hmk hmk2
    obtain ⟨x1, x2, x3, _⟩ := box_at X1.out
    have hsm := Lib.hid (sums_call w2 (.slice aA n cA) A (HA.out.1.below B2.out (Nat.le_refl _)) (by rw [← HN.out]; exact hAl) n w2.heap.size HN.out rfl)
    go_wp2_with (go_at_call 53; refine hsm.out.mono ?_; rintro e1 w3 ⟨_, rfl, rfl, hR3, hb3⟩; have R3 := Lib.hid hR3; have B3 := Lib.hid (B2.out.trans (hb3.mono B2.out.size)); have P3 := Lib.hid (P2.out.keep fun k hk => hb3.block k hk); have X3 : Hid (w3.heap[w.heap.size]? = some (.cells #[.slice aA n cA, .slice aB n cB, .slice aC q cC] 58 (0, 0))) := (hb3.block _ (blk_lt X1.out)).trans X1.out; clear hR3 hb3)
    obtain ⟨S, hS⟩ : ∃ S, S = w2.heap.size := ⟨_, rfl⟩
    rw [← hS] at R3 ⊢
    have HS : Hid (w.heap.size ≤ S) := by show _ ≤ _; rw [hS]; exact B2.out.size
    clear hS hsm P2 B2 X1 x1 x2 x3 HA
    obtain ⟨b, hbz⟩ : ∃ b, b = w.heap.size + 1 := ⟨_, rfl⟩
    rw [← hbz] at P3 ⊢
    clear hbz hz1
    go_loopg [5, 26] n (fun g lv i wx => ∃ (k : Nat) (t1 : List (List Int)) (vs : List Value) (L : List Int), k ≤ n ∧ g = n - k ∧ i = .int .i64 k ∧ t1.length = k ∧ IntL w lv L ∧ Hid (L.length ≤ 1073741824) ∧ Hid (Pt.cut bN C = (Pt.cut (bN.drop k) L).map (t1 ++ ·)) ∧ PRow wx w.heap.size b n (List.zipWith Pt.Po.mk ((sm 0 A).take k) t1) vs ∧ RowI wx S n (fun j => (sm 0 A).getD j 0) ∧ wx.heap[w.heap.size]? = some (.cells #[.slice aA n cA, .slice aB n cB, .slice aC q cC] 58 (0, 0)) ∧ Below w.heap.size w wx)
    case atStart => exact ⟨0, [], [], C, Nat.zero_le _, rfl, rfl, rfl, HC.out, by rw [← HQ.out]; exact hCl, by show _ = _; simp, P3.out, R3.out, X3.out, B3.out⟩
    case round =>
      clear P3 R3 X3 B3
      obtain ⟨k, t1, vs, L, hk, rfl, rfl, ht, hL, hLl, hcut, hP, hR, hX, hbel⟩ := hrel
      have HP := Lib.hid hP
      have HR := Lib.hid hR
      have HX := Lib.hid hX
      have HBE := Lib.hid hbel
      have HL := Lib.hid hL
      have HT := Lib.hid ht
      clear hP hR hX hbel hL ht
      by_cases hkn : k < n
      · have i2 : (k : Int) < (n : Int) := by omega
        have kA : k < (sm 0 A).length := by rw [sm_length, ← HN.out]; exact hkn
        have kB : k < bN.length := by rw [← HM.out]; exact hkn
        have r1 : wr.cell? ⟨S, k, none⟩ = some (.int .i64 ((sm 0 A).getD k 0)) := World.rowIs.cell HR.out hkn
        have hbx := box_at HX.out
        obtain ⟨x1, x2, x3, _⟩ := hbx
        obtain ⟨aB', cB', hv, b1', b2', b3'⟩ := id HB.out.1
        injection hv with e1 e2 e3
        subst e1 e3
        obtain ⟨gB, oB, rfl, gB1, gB2⟩ := b3' (by rw [List.length_map]; omega)
        have r2 : wr.cell? ⟨gB, oB + k, none⟩ = some (.int .i64 ((bN[k] : Nat) : Int)) := by
          rw [(HBE.out.cell (p := ⟨gB, oB + k, none⟩) gB1).trans (gB2 k (by rw [List.length_map]; exact kB)), List.getElem_map]
          rfl
        have hmb := hb bN[k] (List.getElem_mem kB)
        have hcd := hcut.out
        rw [drop_at kB, Pt.cut_cons] at hcd
        rw [getD_at _ _ kA] at r1
        have hsz : Hid ((List.zipWith Pt.Po.mk ((sm 0 A).take k) t1).length = k) := by show _ = _; rw [List.length_zipWith, List.length_take, HT.out]; omega
        have hnext : Hid (∀ ats, List.zipWith Pt.Po.mk ((sm 0 A).take k) t1 ++ [⟨(sm 0 A)[k], ats⟩] = List.zipWith Pt.Po.mk ((sm 0 A).take (k + 1)) (t1 ++ [ats])) := by
          intro ats
          rw [List.take_succ_eq_append_getElem kA, List.zipWith_append (by rw [List.length_take, HT.out]; omega)]
          rfl
        clear b1' b3' gB2 e2 hcut
        generalize (sm 0 A)[k] = x at *
        generalize bN[k] = m at *
        obtain ⟨bR, hbR⟩ : ∃ bR, bR = bN.drop (k + 1) := ⟨_, rfl⟩
        have HBR := Lib.hid hbR
        rw [← hbR] at hcd
        clear hbR
        have HBl : Hid (b < wr.heap.size) := blk_lt HP.out.blk.choose_spec.1
        have HBn : Hid (w.heap.size ≠ b ∧ S ≠ b) := by
          obtain ⟨cS, hS1, _⟩ := id HR.out
          obtain ⟨cb, hb1, _⟩ := HP.out.blk
          exact ⟨kinds_ne HX.out hb1 (by decide), kinds_ne hS1 hb1 (by decide)⟩
        rcases HL.out.2 with ⟨hv5, hLe⟩ | ⟨gL, oL, cL, hv5⟩
        · subst hv5 hLe
          by_cases hlm : 0 < m
          · have hfit : Hid (Pt.fit A bN C = false ∧ Pt.cut bN C = none) := by
              rw [if_pos (by simpa using hlm)] at hcd
              have h2 : Pt.cut bN C = none := hcd
              refine ⟨?_, h2⟩
              unfold Pt.fit
              rw [h2]
              simp
            have i3 : (0 : Int) < (m : Int) := by omega
            clear hcd HL
            go_wp2_with fail
            go_ret2
            exact ⟨.slice none 0 0, by rw [hfit.out.1]; rfl, HBE.out, fun t _ e => by rw [hfit.out.2] at e; cases e⟩
          · obtain rfl : m = 0 := by omega
            have i3 : ¬ (0 : Int) < ((0 : Nat) : Int) := by omega
            have hcd2 : Hid (Pt.cut bN C = ((Pt.cut bR (([] : List Int).drop 0)).map fun t => sm 0 (([] : List Int).take 0) :: t).map (t1 ++ ·)) := by
              rw [if_neg (by simp)] at hcd
              exact hcd
            have HLm : Hid (0 ≤ ([] : List Int).length) := Nat.zero_le _
            have HLt := Lib.hid (HL.out.1)
            have HLr := Lib.hid HL.out
            clear hcd hlm
            have hsm := Lib.hid (sums_call wr (.slice none 0 0) (([] : List Int).take 0) (HLt.out.below HBE.out (Nat.le_refl _)) (by rw [List.length_take]; have := hLl.out; omega) 0 wr.heap.size (by rw [List.length_take]; have := HLm.out; omega) rfl)
            go_wp2_with (go_at_call 53; refine hsm.out.mono ?_; rintro e1 w7 ⟨_, rfl, rfl, hR7, hb7⟩; have P7 := Lib.hid (HP.out.keep fun k hk => hb7.block k hk); obtain ⟨⟨u0, z1⟩, z2⟩ := P7.out.at (k * 2) (by omega); obtain ⟨⟨u1, z3⟩, z4⟩ := P7.out.at2 (k * 2) (k * 2 + 1) (.int .i64 x) (by omega); have R7 := Lib.hid hR7; have B7 := Lib.hid hb7; clear hR7 hb7)
            have hO : OwnI w7 w.heap.size (.slice (some ⟨wr.heap.size, 0, none⟩) 0 0) (sm 0 (([] : List Int).take 0)) := RowI.own R7.out (by rw [sm_length, List.length_take]; have := HLm.out; omega) HBE.out.size (by have := hLl.out; have := HLm.out; omega)
            have hml : (sm 0 (([] : List Int).take 0)).length = 0 := by rw [sm_length, List.length_take]; have := HLm.out; omega
            have hP7 := P7.out.put (by rw [hsz.out]; exact hkn) x wr.heap.size (sm 0 (([] : List Int).take 0)) (by rw [hml]; exact hO)
            rw [hsz.out, hml, hnext.out] at hP7
            have hfar : ∀ k', k' ≠ b → ((w7.setCell ⟨b, k * 2, none⟩ (.int .i64 x)).setCell ⟨b, k * 2 + 1, none⟩ (.slice (some ⟨wr.heap.size, 0, none⟩) 0 0)).heap[k']? = w7.heap[k']? := fun k' e => by rw [heap_other _ _ _ _ _ e, heap_other _ _ _ _ _ e]
            have hXs : ((w7.setCell ⟨b, k * 2, none⟩ (.int .i64 x)).setCell ⟨b, k * 2 + 1, none⟩ (.slice (some ⟨wr.heap.size, 0, none⟩) 0 0)).heap[w.heap.size]? = some (.cells #[.slice aA n cA, .slice (some ⟨gB, oB, none⟩) n cB, .slice aC q cC] 58 (0, 0)) := (hfar _ HBn.out.1).trans ((B7.out.block _ (blk_lt HX.out)).trans HX.out)
            have hRs : RowI ((w7.setCell ⟨b, k * 2, none⟩ (.int .i64 x)).setCell ⟨b, k * 2 + 1, none⟩ (.slice (some ⟨wr.heap.size, 0, none⟩) 0 0)) S n (fun j => (sm 0 A).getD j 0) := World.rowIs.of_block HR.out ((hfar _ HBn.out.2).trans (B7.out.block _ (World.rowIs.lt HR.out)))
            have hBs : Below w.heap.size w ((w7.setCell ⟨b, k * 2, none⟩ (.int .i64 x)).setCell ⟨b, k * 2 + 1, none⟩ (.slice (some ⟨wr.heap.size, 0, none⟩) 0 0)) := ((HBE.out.trans (B7.out.mono HBE.out.size)).setCell (p := ⟨b, k * 2, none⟩) HP.out.base _).setCell (p := ⟨b, k * 2 + 1, none⟩) HP.out.base _
            have HP7 := Lib.hid hP7
            have HXs := Lib.hid hXs
            have HRs := Lib.hid hRs
            have HBs := Lib.hid hBs
            clear hP7 hXs hRs hBs hO hfar z1 z2 z3 z4
            go_roundg (n - (k + 1))
            case rel => exact ⟨k + 1, t1 ++ [sm 0 (([] : List Int).take 0)], _, ([] : List Int).drop 0, by omega, rfl, by go_num, by rw [List.length_append, HT.out]; rfl, HLr.out, by show _ ≤ _; rw [List.length_drop]; have := hLl.out; omega, by show _ = _; rw [hcd2.out, HBR.out, Option.map_map]; congr 1; funext y; simp, HP7.out, HRs.out, HXs.out, HBs.out⟩
            case measure => omega
        · subst hv5
          obtain ⟨_, f2, f3⟩ := HL.out.1.fits
          obtain ⟨nL, hnL⟩ : ∃ nL, nL = L.length := ⟨_, rfl⟩
          have HNL := Lib.hid hnL
          rw [← hnL] at HL f2 hcd ⊢
          clear hnL
          by_cases hlm : nL < m
          · have hfit : Hid (Pt.fit A bN C = false ∧ Pt.cut bN C = none) := by
              rw [if_pos hlm] at hcd
              have h2 : Pt.cut bN C = none := hcd
              refine ⟨?_, h2⟩
              unfold Pt.fit
              rw [h2]
              simp
            have i3 : (nL : Int) < (m : Int) := by omega
            clear hcd HL
            go_wp2_with fail
            go_ret2
            exact ⟨.slice none 0 0, by rw [hfit.out.1]; rfl, HBE.out, fun t _ e => by rw [hfit.out.2] at e; cases e⟩
          · have i3 : ¬ (nL : Int) < (m : Int) := by omega
            have hcd2 : Hid (Pt.cut bN C = ((Pt.cut bR (L.drop m)).map fun t => sm 0 (L.take m) :: t).map (t1 ++ ·)) := by
              rw [if_neg hlm] at hcd
              exact hcd
            have HLm : Hid (m ≤ L.length) := by show _ ≤ _; rw [← HNL.out]; omega
            have HLt := Lib.hid (HL.out.1.take m HLm.out)
            have HLr0 := HL.out.1.drop m HLm.out
            have i4 : m ≤ nL := by omega
            clear hcd hlm
            by_cases hcm : cL = m
            · subst hcm
              rw [if_pos rfl, show nL - cL = 0 by omega, Nat.sub_self] at HLr0
              have HLr := Lib.hid HLr0
              clear HLr0
              have hsm := Lib.hid (sums_call wr (.slice (some ⟨gL, oL, none⟩) cL cL) (L.take cL) (HLt.out.below HBE.out (Nat.le_refl _)) (by rw [List.length_take]; have := hLl.out; omega) cL wr.heap.size (by rw [List.length_take]; have := HLm.out; omega) rfl)
              go_wp2_with (go_at_call 53; refine hsm.out.mono ?_; rintro e1 w7 ⟨_, rfl, rfl, hR7, hb7⟩; have P7 := Lib.hid (HP.out.keep fun k hk => hb7.block k hk); obtain ⟨⟨u0, z1⟩, z2⟩ := P7.out.at (k * 2) (by omega); obtain ⟨⟨u1, z3⟩, z4⟩ := P7.out.at2 (k * 2) (k * 2 + 1) (.int .i64 x) (by omega); have R7 := Lib.hid hR7; have B7 := Lib.hid hb7; clear hR7 hb7)
              have hO : OwnI w7 w.heap.size (.slice (some ⟨wr.heap.size, 0, none⟩) cL cL) (sm 0 (L.take cL)) := RowI.own R7.out (by rw [sm_length, List.length_take]; have := HLm.out; omega) HBE.out.size (by have := hLl.out; have := HLm.out; omega)
              have hml : (sm 0 (L.take cL)).length = cL := by rw [sm_length, List.length_take]; have := HLm.out; omega
              have hP7 := P7.out.put (by rw [hsz.out]; exact hkn) x wr.heap.size (sm 0 (L.take cL)) (by rw [hml]; exact hO)
              rw [hsz.out, hml, hnext.out] at hP7
              have hfar : ∀ k', k' ≠ b → ((w7.setCell ⟨b, k * 2, none⟩ (.int .i64 x)).setCell ⟨b, k * 2 + 1, none⟩ (.slice (some ⟨wr.heap.size, 0, none⟩) cL cL)).heap[k']? = w7.heap[k']? := fun k' e => by rw [heap_other _ _ _ _ _ e, heap_other _ _ _ _ _ e]
              have hXs : ((w7.setCell ⟨b, k * 2, none⟩ (.int .i64 x)).setCell ⟨b, k * 2 + 1, none⟩ (.slice (some ⟨wr.heap.size, 0, none⟩) cL cL)).heap[w.heap.size]? = some (.cells #[.slice aA n cA, .slice (some ⟨gB, oB, none⟩) n cB, .slice aC q cC] 58 (0, 0)) := (hfar _ HBn.out.1).trans ((B7.out.block _ (blk_lt HX.out)).trans HX.out)
              have hRs : RowI ((w7.setCell ⟨b, k * 2, none⟩ (.int .i64 x)).setCell ⟨b, k * 2 + 1, none⟩ (.slice (some ⟨wr.heap.size, 0, none⟩) cL cL)) S n (fun j => (sm 0 A).getD j 0) := World.rowIs.of_block HR.out ((hfar _ HBn.out.2).trans (B7.out.block _ (World.rowIs.lt HR.out)))
              have hBs : Below w.heap.size w ((w7.setCell ⟨b, k * 2, none⟩ (.int .i64 x)).setCell ⟨b, k * 2 + 1, none⟩ (.slice (some ⟨wr.heap.size, 0, none⟩) cL cL)) := ((HBE.out.trans (B7.out.mono HBE.out.size)).setCell (p := ⟨b, k * 2, none⟩) HP.out.base _).setCell (p := ⟨b, k * 2 + 1, none⟩) HP.out.base _
              have HP7 := Lib.hid hP7
              have HXs := Lib.hid hXs
              have HRs := Lib.hid hRs
              have HBs := Lib.hid hBs
              clear hP7 hXs hRs hBs hO hfar z1 z2 z3 z4
              go_roundg (n - (k + 1))
              case rel => exact ⟨k + 1, t1 ++ [sm 0 (L.take cL)], _, L.drop cL, by omega, rfl, by go_num, by rw [List.length_append, HT.out]; rfl, HLr.out, by show _ ≤ _; rw [List.length_drop]; have := hLl.out; omega, by show _ = _; rw [hcd2.out, HBR.out, Option.map_map]; congr 1; funext y; simp, HP7.out, HRs.out, HXs.out, HBs.out⟩
              case measure => omega
            · rw [if_neg hcm] at HLr0
              have HLr := Lib.hid HLr0
              clear HLr0
              have hsm := Lib.hid (sums_call wr (.slice (some ⟨gL, oL, none⟩) m cL) (L.take m) (HLt.out.below HBE.out (Nat.le_refl _)) (by rw [List.length_take]; have := hLl.out; omega) m wr.heap.size (by rw [List.length_take]; have := HLm.out; omega) rfl)
              go_wp2_with (go_at_call 53; refine hsm.out.mono ?_; rintro e1 w7 ⟨_, rfl, rfl, hR7, hb7⟩; have P7 := Lib.hid (HP.out.keep fun k hk => hb7.block k hk); obtain ⟨⟨u0, z1⟩, z2⟩ := P7.out.at (k * 2) (by omega); obtain ⟨⟨u1, z3⟩, z4⟩ := P7.out.at2 (k * 2) (k * 2 + 1) (.int .i64 x) (by omega); have R7 := Lib.hid hR7; have B7 := Lib.hid hb7; clear hR7 hb7)
              have hO : OwnI w7 w.heap.size (.slice (some ⟨wr.heap.size, 0, none⟩) m m) (sm 0 (L.take m)) := RowI.own R7.out (by rw [sm_length, List.length_take]; have := HLm.out; omega) HBE.out.size (by have := hLl.out; have := HLm.out; omega)
              have hml : (sm 0 (L.take m)).length = m := by rw [sm_length, List.length_take]; have := HLm.out; omega
              have hP7 := P7.out.put (by rw [hsz.out]; exact hkn) x wr.heap.size (sm 0 (L.take m)) (by rw [hml]; exact hO)
              rw [hsz.out, hml, hnext.out] at hP7
              have hfar : ∀ k', k' ≠ b → ((w7.setCell ⟨b, k * 2, none⟩ (.int .i64 x)).setCell ⟨b, k * 2 + 1, none⟩ (.slice (some ⟨wr.heap.size, 0, none⟩) m m)).heap[k']? = w7.heap[k']? := fun k' e => by rw [heap_other _ _ _ _ _ e, heap_other _ _ _ _ _ e]
              have hXs : ((w7.setCell ⟨b, k * 2, none⟩ (.int .i64 x)).setCell ⟨b, k * 2 + 1, none⟩ (.slice (some ⟨wr.heap.size, 0, none⟩) m m)).heap[w.heap.size]? = some (.cells #[.slice aA n cA, .slice (some ⟨gB, oB, none⟩) n cB, .slice aC q cC] 58 (0, 0)) := (hfar _ HBn.out.1).trans ((B7.out.block _ (blk_lt HX.out)).trans HX.out)
              have hRs : RowI ((w7.setCell ⟨b, k * 2, none⟩ (.int .i64 x)).setCell ⟨b, k * 2 + 1, none⟩ (.slice (some ⟨wr.heap.size, 0, none⟩) m m)) S n (fun j => (sm 0 A).getD j 0) := World.rowIs.of_block HR.out ((hfar _ HBn.out.2).trans (B7.out.block _ (World.rowIs.lt HR.out)))
              have hBs : Below w.heap.size w ((w7.setCell ⟨b, k * 2, none⟩ (.int .i64 x)).setCell ⟨b, k * 2 + 1, none⟩ (.slice (some ⟨wr.heap.size, 0, none⟩) m m)) := ((HBE.out.trans (B7.out.mono HBE.out.size)).setCell (p := ⟨b, k * 2, none⟩) HP.out.base _).setCell (p := ⟨b, k * 2 + 1, none⟩) HP.out.base _
              have HP7 := Lib.hid hP7
              have HXs := Lib.hid hXs
              have HRs := Lib.hid hRs
              have HBs := Lib.hid hBs
              clear hP7 hXs hRs hBs hO hfar z1 z2 z3 z4
              go_roundg (n - (k + 1))
              case rel => exact ⟨k + 1, t1 ++ [sm 0 (L.take m)], _, L.drop m, by omega, rfl, by go_num, by rw [List.length_append, HT.out]; rfl, HLr.out, by show _ ≤ _; rw [List.length_drop]; have := hLl.out; omega, by show _ = _; rw [hcd2.out, HBR.out, Option.map_map]; congr 1; funext y; simp, HP7.out, HRs.out, HXs.out, HBs.out⟩
              case measure => omega
      · obtain rfl : k = n := by omega
        obtain ⟨nL, hnL⟩ : ∃ nL, nL = L.length := ⟨_, rfl⟩
        have HNL := Lib.hid hnL
        have hform : ∃ aL cL, u5 = .slice aL nL cL := by
          obtain ⟨aL, cL, h1, _⟩ := HL.out.1
          exact ⟨aL, cL, by rw [h1, hnL]⟩
        obtain ⟨aL, cL, rfl⟩ := hform
        have hbn : bN.drop k = [] := List.drop_of_length_le (by rw [← HM.out]; exact Nat.le_refl _)
        have hcd := hcut.out
        rw [hbn, Pt.cut_nil] at hcd
        have hst : (sm 0 A).take k = sm 0 A := List.take_of_length_le (by rw [sm_length, ← HN.out]; exact Nat.le_refl _)
        have hP2 := HP.out
        rw [hst] at hP2
        have HP2 := Lib.hid hP2
        have hlen : A.length = bN.length := by rw [← HN.out, ← HM.out]
        have hfit : Hid (Pt.fit A bN C = decide (nL = 0) ∧ ∀ t, Pt.cut bN C = some t → t = t1) := by
          unfold Pt.fit
          rw [decide_eq_true hlen, hcd, hnL]
          by_cases hL0 : L = []
          · subst hL0
            refine ⟨rfl, fun t e => ?_⟩
            rw [if_pos rfl] at e
            simp at e
            exact e.symm
          · rw [if_neg hL0]
            refine ⟨?_, fun t e => by cases e⟩
            have : ¬ L.length = 0 := fun q => hL0 (List.length_eq_zero_iff.1 q)
            simp [this]
        clear hcd hst hP2 hlen hbn hcut hnL hLl
        by_cases hn0 : nL = 0
        · subst hn0
          go_wp2_with fail
          go_ret2
          exact ⟨.slice (some ⟨b, 0, none⟩) k k, by rw [hfit.out.1]; rfl, HBE.out, fun t _ e => by obtain rfl := hfit.out.2 t e; first | exact ⟨b, vs, rfl, HP2.out⟩ | exact ⟨b, rfl, vs, HP2.out⟩⟩
        · have hne : ((nL : Int) == 0) = false := by simpa using (fun q : (nL : Int) = 0 => hn0 (by omega))
          have HN0 := Lib.hid hn0
          clear hn0
          go_wp2_with fail
          go_ret2
          exact ⟨.slice (some ⟨b, 0, none⟩) k k, by rw [hfit.out.1, decide_eq_false HN0.out]; rfl, HBE.out, fun t _ e => by obtain rfl := hfit.out.2 t e; first | exact ⟨b, vs, rfl, HP2.out⟩ | exact ⟨b, rfl, vs, HP2.out⟩⟩
  · have hne : ((m : Int) != (n : Int)) = true := by simpa using (fun q : (m : Int) = (n : Int) => hnm (by omega))
    have hfit : Hid (Pt.fit A bN C = false) := by
      show _ = _
      unfold Pt.fit
      rw [decide_eq_false (by rw [← hn, ← hm]; exact hnm)]
      rfl
    have hno : Hid (¬ n = bN.length) := by show ¬ _; rw [← hm]; exact hnm
    rw [hfit.out, ← hn, ← hq]
    clear hnm hn hm hq a3 b3 c3 hA hB hC
    go_enter Try.func34, Try.ntmps34
    go_wp2_with fail
    go_ret2
    refine ⟨_, rfl, (Below.refl _ _).alloc (Nat.le_refl _) _, fun t e => absurd e hno.out⟩
end Go.Proofs.Ytokdjaljeckghaa
