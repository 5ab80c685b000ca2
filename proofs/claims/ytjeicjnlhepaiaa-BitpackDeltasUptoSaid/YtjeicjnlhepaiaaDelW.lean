/-
  Differences, summed up, are the list again, and rise where the list does: the walk of the statement.
-/
import Derived.Test.YtjeicjnlhepaiaaBpPacksW
import Derived.Test.YtjeicjnlhepaiaaDel
namespace Go.Proofs.Ytjeicjnlhepaiaa
open Go.RowKit

theorem deltas_n (w : World) (v : Value) (zs : List Int) (n : Nat) (hz : zs.length = n) (hv : IntS w v zs) (hn : n ≤ 1073741824) :
    Calls Try.prog 14 #[v] w fun e w' => e = .returned (.slice (some ⟨w.heap.size, 0, none⟩) n n) ∧ RowI w' w.heap.size n (fun j => (dl 0 zs).getD j 0) ∧ Below w.heap.size w w' := by
  have h := deltas_any w v zs hv (by omega)
  unfold NewI at h
  rw [dl_length, hz] at h
  exact h
theorem sums_n (w : World) (v : Value) (zs : List Int) (n : Nat) (hz : zs.length = n) (hv : IntS w v zs) (hn : n ≤ 1073741824) :
    Calls Try.prog 15 #[v] w fun e w' => e = .returned (.slice (some ⟨w.heap.size, 0, none⟩) n n) ∧ RowI w' w.heap.size n (fun j => (sm 0 zs).getD j 0) ∧ Below w.heap.size w w' := by
  have h := sums_any w v zs hv (by omega)
  unfold NewI at h
  rw [sm_length, hz] at h
  exact h
theorem RowI.keep {w w' : World} {g n B : Nat} {f : Nat → Int} (h : RowI w g n f) (hb : Below B w w') (hB : g < B) : RowI w' g n f :=
  World.rowIs.of_block h (hb.block g hB)

set_option maxRecDepth 100000 in
set_option maxHeartbeats 4000000 in
theorem deltas_some (x : Addr) (len cap : Nat) (zs : List Int) (w : World) (hv : IntS w (.slice (some x) len cap) zs) (hzl : zs.length = len)
    (hc : ∀ j u, (intsV zs)[j]? = some u → w.cell? (x.add j) = some u ∧ (x.add j).block < w.heap.size) (hwf : Wf zs) (hlen : len ≤ 1048576) :
    Calls Try.prog 7 #[.slice (some x) len cap] w fun e w' => e = .returned (.bool true) ∧ Below w.heap.size w w' := by
  obtain ⟨ii, hi, hz0, hz1, hz2⟩ := info_parts Try.infoI
  have L0 := World.ownsRow_lit (e := 3) (size := 1) w #[] 0 (Nat.le_refl _) (by unfold maxLen; omega) rfl
  have LB : Below w.heap.size w (w.alloc (.cells #[] 3)) := (Below.refl _ _).alloc (Nat.le_refl _) _
  have A2 : ∀ j u, (intsV zs)[j]? = some u → (w.alloc (.cells #[] 3)).cell? (x.add j) = some u := by
    intro j u hj
    obtain ⟨h1, h2⟩ := hc j u hj
    exact (LB.cell h2).trans h1
  have A1 : (intsV zs).length = len * 1 := by rw [intsV_length, hzl, Nat.mul_one]
  have A3 : ∀ u ∈ intsV zs, u.oneCell' = true := by
    intro u hu
    obtain ⟨x, _, rfl⟩ := List.mem_map.1 hu
    rfl
  have HA := Lib.hid (And.intro L0 (And.intro LB (And.intro A1 (And.intro A2 A3))))
  have HV := Lib.hid hv
  have HW := Lib.hid hwf
  have HZ := Lib.hid hzl
  clear L0 LB A1 A2 A3 hv hwf hc hzl
  go_enter Try.func7, Try.ntmps7
  go_wp2_with (at_builtin; first
    | (refine wpList_append_own _ rfl _ _ 22 rfl w.heap.size 3 ii (.int .i64 0) 1 8 Try.underlying22 hi hz0 hz1 hz2 rfl (by decide) _ _ _ rfl (HO1.out.1.alloc _) ⟨w1.heap.size, 0, none⟩ 1 1 [.int .i64 77] rfl rfl (news_77 w1) one_77 (by unfold maxLen; omega) (by omega) (by have := HO1.out.2.2.2; simp; omega) ?_; intro v2 w2 hown2 hg2 _; have HO2 := Lib.hid (ownI_push HO1.out.2.2.2 HO1.out.2.1 HO1.out.2.2.1 (by rw [HZ.out]; exact hown2) hg2); clear hown2 hg2; obtain ⟨g, cap2, rfl, hcp1, hcp2, hgl, hc77, hin⟩ := in_split HO2.out.1; rw [HZ.out] at hcp1 hc77 hin ⊢; have HI := Lib.hid (And.intro hin hc77); clear hin hc77)
    | (refine wpList_append_own _ rfl _ _ 22 rfl w.heap.size 3 ii (.int .i64 0) 1 8 Try.underlying22 hi hz0 hz1 hz2 rfl (by decide) _ _ _ rfl HA.out.1 x len cap (intsV zs) rfl HA.out.2.2.1 HA.out.2.2.2.1 HA.out.2.2.2.2 (by unfold maxLen; omega) (by omega) (by simp) ?_; intro v1 w1 hown1 hg1 _; have hownA : w1.ownsRow w.heap.size 3 1 v1 len (intsV zs) := (by simpa using hown1); have HR := ownI_old (r := zs) (by simp) HA.out.1 HA.out.2.1 (by rw [HZ.out]; exact hown1) hg1; have HO1 := Lib.hid (And.intro hownA (And.intro HR.1 (And.intro HR.2 HR.2.size))); clear hown1 hg1 hownA HR))
  have HB2 : Hid (Below w.heap.size w w2) := HO2.out.2
  have HD := Lib.hid (deltas_n w2 _ zs len HZ.out HI.out.1 (by omega))
  have HDL : Hid ((dl 0 zs).length = len) := by show _ = _; rw [dl_length, HZ.out]
  have HSM : Hid (sm 0 (dl 0 zs) = zs) := sm_dl zs 0 HW.out
  have HDG : Hid (∀ k (hk : k < zs.length), (dl 0 zs).getD k 0 = wrap64 (zs[k] - (0 :: zs).getD k 0)) := fun k hk => by
    rw [getD_at _ k (by rw [dl_length]; exact hk), dl_get zs 0 k hk, getD_at (0 :: zs) k (by rw [List.length_cons]; omega)]
  clear HO1 HO2 HA
  generalize dl 0 zs = ds at *
  refine HD.out.mono ?_
  rintro e1 w3 ⟨rfl, hd3, hb3⟩
  obtain ⟨gd, hgd⟩ : ∃ gd, gd = w2.heap.size := ⟨_, rfl⟩
  have hgw3 := World.rowIs.lt hd3
  rw [← hgd] at hd3 hgw3 ⊢
  have HD3 := Lib.hid hd3
  have HB3 := Lib.hid hb3
  have HS := Lib.hid (sums_n w3 _ ds len HDL.out (hd3.ints HDL.out (by omega)) (by omega))
  have HI3 : Hid (IntS w3 (.slice (some ⟨g, 0, none⟩) len cap2) zs) := HI.out.1.below hb3 (Nat.le_refl _)
  have H773 : Hid (w3.cell? ⟨g, len, none⟩ = some (.int .i64 77)) := (hb3.cell (p := ⟨g, len, none⟩) hgl).trans HI.out.2
  have HW3 : Hid (Below w.heap.size w w3) := HB2.out.trans (hb3.mono HB2.out.size)
  have hg3 : g < w3.heap.size := Nat.lt_of_lt_of_le hgl hb3.size
  rw [HSM.out] at HS
  clear HD hd3 hb3 HB3 HI HB2 hgl hgd
  go_wp2_with fail
  refine HS.out.mono ?_
  rintro e1 w4 ⟨rfl, hs4, hb4⟩
  obtain ⟨gs, hgs⟩ : ∃ gs, gs = w3.heap.size := ⟨_, rfl⟩
  have hgw4 := World.rowIs.lt hs4
  rw [← hgs] at hs4 hgw4 hb4 hgw3 hg3 ⊢
  have hd4 : RowI w4 gd len (fun j => ds.getD j 0) := HD3.out.keep hb4 hgw3
  have HD4 := Lib.hid hd4
  have HS4 := Lib.hid hs4
  have HT := Lib.hid (sums_n w4 _ ds len HDL.out (hd4.ints HDL.out (by omega)) (by omega))
  have HI4 : Hid (IntS w4 (.slice (some ⟨g, 0, none⟩) len cap2) zs) := HI3.out.below hb4 (by omega)
  have H774 : Hid (w4.cell? ⟨g, len, none⟩ = some (.int .i64 77)) := (hb4.cell (p := ⟨g, len, none⟩) hg3).trans H773.out
  have hsw : w.heap.size ≤ gs := by rw [hgs]; exact HW3.out.size
  have HW4 : Hid (Below w.heap.size w w4) := HW3.out.trans (hb4.mono hsw)
  rw [HSM.out] at HT
  clear HS hd4 hs4 hb4 HI3 H773 HW3 HD3 hgs
  go_wp2_with fail
  refine HT.out.mono ?_
  rintro e1 w5 ⟨rfl, ht5, hb5⟩
  obtain ⟨gt, hgt⟩ : ∃ gt, gt = w4.heap.size := ⟨_, rfl⟩
  have hgw5 := World.rowIs.lt ht5
  rw [← hgt] at ht5 hgw5 hb5 hgw4 ⊢
  have HD5 : Hid (RowI w5 gd len (fun j => ds.getD j 0)) := HD4.out.keep hb5 (by omega)
  have HS5 : Hid (RowI w5 gs len (fun j => zs.getD j 0)) := HS4.out.keep hb5 hgw4
  have HT5 := Lib.hid ht5
  have HI5 : Hid (IntS w5 (.slice (some ⟨g, 0, none⟩) len cap2) zs) := HI4.out.below hb5 (by omega)
  have H775 : Hid (w5.cell? ⟨g, len, none⟩ = some (.int .i64 77)) := (hb5.cell (p := ⟨g, len, none⟩) (by show g < gt; omega)).trans H774.out
  have HW5 : Hid (Below w.heap.size w w5) := HW4.out.trans (hb5.mono (by omega))
  clear HT ht5 hb5 HI4 H774 HW4 HD4 HS4 hgt
  go_wp2_with fail
  refine (awake3_any pack_c read_c _).mono ?_
  rintro e1 w6 ⟨rfl, hb6⟩
  have HD6 : Hid (RowI w6 gd len (fun j => ds.getD j 0)) := HD5.out.keep hb6 (by omega)
  have HS6 : Hid (RowI w6 gs len (fun j => zs.getD j 0)) := HS5.out.keep hb6 (by omega)
  have HT6 : Hid (RowI w6 gt len (fun j => zs.getD j 0)) := HT5.out.keep hb6 hgw5
  have HI6 : Hid (IntS w6 (.slice (some ⟨g, 0, none⟩) len cap2) zs) := HI5.out.below hb6 (Nat.le_refl _)
  have H776 : Hid (w6.cell? ⟨g, len, none⟩ = some (.int .i64 77)) := (hb6.cell (p := ⟨g, len, none⟩) (by show g < w5.heap.size; omega)).trans H775.out
  have HW6 : Hid (Below w.heap.size w w6) := HW5.out.trans (hb6.mono HW5.out.size)
  have hs6 : gt < w6.heap.size := Nat.lt_of_lt_of_le hgw5 hb6.size
  clear hb6 HD5 HS5 HT5 HI5 H775 HW5 hgw5
  go_wp2_with fail
  refine (numbers_eq w6 _ _ zs zs (HS6.out.ints HZ.out (by omega)) (HV.out.below HW6.out (Nat.le_refl _)) (by rw [HZ.out]; omega) (by rw [HZ.out]; omega) rfl).mono ?_
  rintro e1 w7 ⟨rfl, hb7⟩
  have HB7 := Lib.hid hb7
  clear hb7
  go_wp2_with fail
  refine (numbers_eq w7 _ _ zs zs (HI6.out.below HB7.out (Nat.le_refl _)) (HV.out.below (HW6.out.trans (HB7.out.mono HW6.out.size)) (Nat.le_refl _)) (by rw [HZ.out]; omega) (by rw [HZ.out]; omega) rfl).mono ?_
  rintro e1 w8 ⟨rfl, hb8⟩
  have hb68 := HB7.out.trans (hb8.mono HB7.out.size)
  have HD8 : Hid (RowI w8 gd len (fun j => ds.getD j 0)) := HD6.out.keep hb68 (by omega)
  have HS8 : Hid (RowI w8 gs len (fun j => zs.getD j 0)) := HS6.out.keep hb68 (by omega)
  have HT8 : Hid (RowI w8 gt len (fun j => zs.getD j 0)) := HT6.out.keep hb68 hs6
  have H778 : Hid (w8.cell? ⟨g, len, none⟩ = some (.int .i64 77)) := (hb68.cell (p := ⟨g, len, none⟩) (by show g < w6.heap.size; omega)).trans H776.out
  have HW8 : Hid (Below w.heap.size w w8) := HW6.out.trans (hb68.mono HW6.out.size)
  clear hb8 hb68 HB7 HD6 HS6 HT6 HI6 H776 HW6 hs6
  go_wp2_with fail
  -- each difference is looked at, and the sums turned
  go_loopg [7] len (fun g i wx => ∃ (k : Nat) (f : Nat → Int), k ≤ len ∧ g = len - k ∧ i = .int .i64 (k : Int) ∧ RowI wx gs len f ∧ RowI wx gt len (fun j => zs.getD j 0) ∧ Below gs w8 wx)
  case atStart => exact ⟨0, _, Nat.zero_le _, rfl, rfl, HS8.out, HT8.out, Below.refl _ _⟩
  case round =>
    clear HS8 HT8
    obtain ⟨k, f, hk, rfl, rfl, hs, ht, hbel⟩ := hrel
    by_cases hkl : k < len
    · have i1 : (k : Int) < (len : Int) := by omega
      have kx : k < zs.length := by rw [HZ.out]; exact hkl
      obtain ⟨a0, c0, he0, _, _, hcv⟩ := HV.out
      obtain ⟨g0, o0, rfl, hg0, hcu⟩ := hcv (by omega)
      have hx0 : x = ⟨g0, o0, none⟩ := by
        injection he0 with h1 _ _
        injection h1
      subst hx0
      clear he0
      have hwr : Below w.heap.size w wr := HW8.out.trans (hbel.mono hsw)
      have c1 : wr.cell? ⟨g0, o0 + k, none⟩ = some (.int .i64 zs[k]) := (hwr.cell (p := ⟨g0, o0 + k, none⟩) hg0).trans (hcu k kx)
      have c2 : wr.cell? ⟨gd, k, none⟩ = some (.int .i64 (ds.getD k 0)) := (hbel.cell (p := ⟨gd, k, none⟩) hgw3).trans (World.rowIs.cell HD8.out hkl)
      have c3 := World.rowIs.cell hs hkl
      have f3 := World.rowIs.frozen hs k
      have hN : Hid (RowI _ gs len _) := hs.set k (-1)
      have hT : Hid (RowI (wr.setCell ⟨gs, k, none⟩ (.int .i64 (-1))) gt len (fun j => zs.getD j 0)) := World.rowIs.setOther ht (by show gt ≠ gs; omega) _
      have hB : Hid (Below gs w8 (wr.setCell ⟨gs, k, none⟩ (.int .i64 (-1)))) := hbel.setCell (by exact Nat.le_refl gs : gs ≤ (⟨gs, k, none⟩ : Addr).block) _
      have hdk := HDG.out k kx
      have hX := HW.out zs[k] (List.getElem_mem kx)
      by_cases h0 : 0 < k
      · obtain ⟨p, hp⟩ : ∃ p, p + 1 = k := ⟨k - 1, by omega⟩
        have px : p < zs.length := by omega
        have e0 : (0 :: zs).getD k 0 = zs[p] := by
          subst hp
          rw [getD_at (0 :: zs) (p + 1) (by rw [List.length_cons]; omega), List.getElem_cons_succ]
        rw [e0] at hdk
        clear e0
        have cp : wr.cell? ⟨g0, o0 + p, none⟩ = some (.int .i64 zs[p]) := (hwr.cell (p := ⟨g0, o0 + p, none⟩) hg0).trans (hcu p px)
        have hA := HW.out zs[p] (List.getElem_mem px)
        have e5 : (k : Int) - 1 = (p : Int) := by omega
        have i2 : (0 : Int) < (k : Int) := by omega
        have i3 : (p : Int) < (len : Int) := by omega
        clear hp
        generalize ds.getD k 0 = D at *
        generalize zs[k] = X at *
        generalize zs[p] = A at *
        have hF : (0 ≤ A → A ≤ X → ¬ D < 0) ∧ (X = A → D = 0) := by
          rw [hdk]
          unfold wrap64
          omega
        obtain ⟨F1, F2⟩ := hF
        clear hdk hX hA hs ht hbel hwr hcu hcv
        by_cases h1 : (0 : Int) ≤ A
        · by_cases h2 : A ≤ X
          · have g1 : ¬ D < 0 := F1 h1 h2
            by_cases h3 : X = A
            · have e3 : (X == A) = true := by simp [h3]
              have e4 : (D != 0) = false := by simp [F2 h3]
              clear F1 F2 h3
              go_wp2_with fail
              go_roundg (len - (k + 1))
              case rel => exact ⟨k + 1, _, by omega, rfl, by go_num, hN.out, hT.out, hB.out⟩
              case measure => omega
            · have e3 : (X == A) = false := by simp [h3]
              clear F1 F2 h3
              go_wp2_with fail
              go_roundg (len - (k + 1))
              case rel => exact ⟨k + 1, _, by omega, rfl, by go_num, hN.out, hT.out, hB.out⟩
              case measure => omega
          · have e3 : (X == A) = false := by simp; omega
            clear F1 F2
            go_wp2_with fail
            go_roundg (len - (k + 1))
            case rel => exact ⟨k + 1, _, by omega, rfl, by go_num, hN.out, hT.out, hB.out⟩
            case measure => omega
        · by_cases h3 : X = A
          · have e3 : (X == A) = true := by simp [h3]
            have e4 : (D != 0) = false := by simp [F2 h3]
            clear F1 F2 h3
            go_wp2_with fail
            go_roundg (len - (k + 1))
            case rel => exact ⟨k + 1, _, by omega, rfl, by go_num, hN.out, hT.out, hB.out⟩
            case measure => omega
          · have e3 : (X == A) = false := by simp [h3]
            clear F1 F2 h3
            go_wp2_with fail
            go_roundg (len - (k + 1))
            case rel => exact ⟨k + 1, _, by omega, rfl, by go_num, hN.out, hT.out, hB.out⟩
            case measure => omega
      · have e0 : (0 :: zs).getD k 0 = 0 := by
          obtain rfl : k = 0 := by omega
          rfl
        rw [e0] at hdk
        clear e0
        have i2 : ¬ (0 : Int) < (k : Int) := by omega
        generalize ds.getD k 0 = D at *
        generalize zs[k] = X at *
        have hF : (0 ≤ X → ¬ D < 0) ∧ (X = 0 → D = 0) := by
          rw [hdk]
          unfold wrap64
          omega
        obtain ⟨F1, F2⟩ := hF
        clear hdk hX hs ht hbel hwr hcu hcv
        by_cases h2 : (0 : Int) ≤ X
        · have g1 : ¬ D < 0 := F1 h2
          by_cases h3 : X = 0
          · have e3 : (X == 0) = true := by simp [h3]
            have e4 : (D != 0) = false := by simp [F2 h3]
            clear F1 F2 h3
            go_wp2_with fail
            go_roundg (len - (k + 1))
            case rel => exact ⟨k + 1, _, by omega, rfl, by go_num, hN.out, hT.out, hB.out⟩
            case measure => omega
          · have e3 : (X == 0) = false := by simp [h3]
            clear F1 F2 h3
            go_wp2_with fail
            go_roundg (len - (k + 1))
            case rel => exact ⟨k + 1, _, by omega, rfl, by go_num, hN.out, hT.out, hB.out⟩
            case measure => omega
        · have e3 : (X == 0) = false := by simp; omega
          clear F1 F2
          go_wp2_with fail
          go_roundg (len - (k + 1))
          case rel => exact ⟨k + 1, _, by omega, rfl, by go_num, hN.out, hT.out, hB.out⟩
          case measure => omega
    · obtain rfl : k = len := by omega
      have HTI : Hid (IntS wr (.slice (some ⟨gt, 0, none⟩) k k) zs) := RowI.ints ht HZ.out (by omega)
      have HWR : Hid (Below w.heap.size w wr) := HW8.out.trans (hbel.mono hsw)
      have H77r : Hid (wr.cell? ⟨g, k, none⟩ = some (.int .i64 77)) := (hbel.cell (p := ⟨g, k, none⟩) hg3).trans H778.out
      have hsr : g < wr.heap.size := by have := hbel.size; have := World.rowIs.lt HD8.out; exact World.block_lt_of_cell? wr _ H77r.out
      clear hs ht hbel
      go_wp2_with fail
      refine (numbers_eq wr _ _ zs zs HTI.out (HV.out.below HWR.out (Nat.le_refl _)) (by rw [HZ.out]; omega) (by rw [HZ.out]; omega) rfl).mono ?_
      rintro e1 w9 ⟨rfl, hb9⟩
      have c77 : w9.cell? ⟨g, k, none⟩ = some (.int .i64 77) := (hb9.cell (p := ⟨g, k, none⟩) hsr).trans H77r.out
      have HF : Hid (Below w.heap.size w w9) := HWR.out.trans (hb9.mono HWR.out.size)
      clear hb9
      go_wp2_with fail
      go_ret
      exact ⟨rfl, HF.out⟩

set_option maxRecDepth 100000 in
set_option maxHeartbeats 4000000 in
theorem deltas_none (w : World) :
    Calls Try.prog 7 #[.slice none 0 0] w fun e w' => e = .returned (.bool true) ∧ Below w.heap.size w w' := by
  obtain ⟨ii, hi, hz0, hz1, hz2⟩ := info_parts Try.infoI
  have L0 := World.ownsRow_lit (e := 3) (size := 1) w #[] 0 (Nat.le_refl _) (by unfold maxLen; omega) rfl
  have LB : Below w.heap.size w (w.alloc (.cells #[] 3)) := (Below.refl _ _).alloc (Nat.le_refl _) _
  have HO0 : Hid (OwnI (w.alloc (.cells #[] 3)) w.heap.size (.slice (some ⟨w.heap.size, 0, none⟩) 0 0) []) := L0
  have HA := Lib.hid (And.intro L0 LB)
  have HV : Hid (∀ w' : World, IntS w' (.slice none 0 0) []) := fun w' => ⟨none, 0, rfl, Nat.le_refl _, by omega, fun h => by simp at h⟩
  have HE : Hid (∀ (w' : World) (g : Nat), RowI w' g 0 (fun j => ([] : List Int).getD j 0) → IntS w' (.slice (some ⟨g, 0, none⟩) 0 0) []) := fun w' g h => h.ints rfl (by omega)
  clear L0 LB
  go_enter Try.func7, Try.ntmps7
  go_wp2_with (at_builtin; first
    | (refine wpList_append_own _ rfl _ _ 22 rfl w.heap.size 3 ii (.int .i64 0) 1 8 Try.underlying22 hi hz0 hz1 hz2 rfl (by decide) (.slice (some ⟨w.heap.size, 0, none⟩) 0 0) 0 [] rfl (HA.out.1.alloc _) ⟨(w.alloc (.cells #[] 3)).heap.size, 0, none⟩ 1 1 [.int .i64 77] (by simp [Act.eval]) rfl (news_77 _) one_77 (by unfold maxLen; omega) (by omega) (by simp; omega) ?_; intro v2 w2 hown2 hg2 _; have HO2 := Lib.hid (ownI_push (by simp) HO0.out HA.out.2 hown2 hg2); clear hown2 hg2; obtain ⟨g, cap2, rfl, hcp1, hcp2, hgl, hc77, hin⟩ := in_split HO2.out.1; have HI := Lib.hid (And.intro hin hc77); clear hin hc77)
    | (refine wpList_append_own_none rfl _ _ 22 rfl w.heap.size 3 ii 1 Try.underlying22 hi (.slice (some ⟨w.heap.size, 0, none⟩) 0 0) 0 [] rfl HA.out.1 rfl ?_))
  have HB2 : Hid (Below w.heap.size w w2) := HO2.out.2
  have HD := Lib.hid (deltas_n w2 _ [] 0 rfl HI.out.1 (by omega))
  clear HO2 HA HO0
  refine HD.out.mono ?_
  rintro e1 w3 ⟨rfl, hd3, hb3⟩
  have HD3 := Lib.hid hd3
  have HB3 : Hid (Below w2.heap.size w2 w3) := hb3
  have hg3 := World.rowIs.lt hd3
  clear hd3 hb3
  go_wp2_with fail
  refine (sums_n w3 _ [] 0 rfl (HE.out _ _ HD3.out) (by omega)).mono ?_
  rintro e1 w4 ⟨rfl, hs4, hb4⟩
  have HS4 := Lib.hid hs4
  have HD4 : Hid (RowI w4 w2.heap.size 0 (fun j => ([] : List Int).getD j 0)) := HD3.out.keep hb4 hg3
  have HB4 : Hid (Below w2.heap.size w2 w4) := HB3.out.trans (hb4.mono HB3.out.size)
  have hg4 := World.rowIs.lt hs4
  clear hs4 hb4 HB3 HD3
  go_wp2_with fail
  refine (sums_n w4 _ [] 0 rfl (HE.out _ _ HD4.out) (by omega)).mono ?_
  rintro e1 w5 ⟨rfl, ht5, hb5⟩
  have HT5 := Lib.hid ht5
  have HS5 : Hid (RowI w5 w3.heap.size 0 (fun j => ([] : List Int).getD j 0)) := HS4.out.keep hb5 hg4
  have HB5 : Hid (Below w2.heap.size w2 w5) := HB4.out.trans (hb5.mono HB4.out.size)
  have hg5 := World.rowIs.lt ht5
  have hs5 : w3.heap.size < w5.heap.size := World.rowIs.lt HS5.out
  clear ht5 hb5 HB4 HS4 HD4
  go_wp2_with fail
  refine (awake3_any pack_c read_c _).mono ?_
  rintro e1 w6 ⟨rfl, hb6⟩
  have HS6 : Hid (RowI w6 w3.heap.size 0 (fun j => ([] : List Int).getD j 0)) := HS5.out.keep hb6 hs5
  have HT6 : Hid (RowI w6 w4.heap.size 0 (fun j => ([] : List Int).getD j 0)) := HT5.out.keep hb6 hg5
  have HB6 : Hid (Below w2.heap.size w2 w6) := HB5.out.trans (hb6.mono HB5.out.size)
  have hg6 := World.rowIs.lt HT6.out
  clear hb6 HB5 HS5 HT5
  go_wp2_with fail
  refine (numbers_eq w6 _ _ [] [] (HE.out _ _ HS6.out) (HV.out _) (by simp) (by simp) rfl).mono ?_
  rintro e1 w7 ⟨rfl, hb7⟩
  have HB7 := Lib.hid hb7
  clear hb7
  go_wp2_with fail
  refine (numbers_eq w7 _ _ [] [] (HI.out.1.below (HB6.out.trans (HB7.out.mono HB6.out.size)) (Nat.le_refl _)) (HV.out _) (by simp) (by simp) rfl).mono ?_
  rintro e1 w8 ⟨rfl, hb8⟩
  have hb68 := HB7.out.trans (hb8.mono HB7.out.size)
  have HT8 : Hid (RowI w8 w4.heap.size 0 (fun j => ([] : List Int).getD j 0)) := HT6.out.keep hb68 hg6
  have HB8 : Hid (Below w2.heap.size w2 w8) := HB6.out.trans (hb68.mono HB6.out.size)
  clear hb8 hb68 HB7 HB6 HS6 HT6
  go_wp2_with fail
  refine wp_loop_rounds 1 ?_
  rw [rounds_succ]
  go_wp2_with fail
  refine (numbers_eq w8 _ _ [] [] (HE.out _ _ HT8.out) (HV.out _) (by simp) (by simp) rfl).mono ?_
  rintro e1 w9 ⟨rfl, hb9⟩
  have HB9 : Hid (Below w2.heap.size w2 w9) := HB8.out.trans (hb9.mono HB8.out.size)
  have c77 : w9.cell? ⟨g, 0, none⟩ = some (.int .i64 77) := (HB9.out.cell (p := ⟨g, 0, none⟩) hgl).trans HI.out.2
  have HF : Hid (Below w.heap.size w w9) := HB2.out.trans (HB9.out.mono HB2.out.size)
  clear hb9
  go_wp2_with fail
  go_ret
  exact ⟨rfl, HF.out⟩

/-- The statement, walked. -/
theorem deltas_walk3 (v : Value) (zs : List Int) (w : World) (hv : IntS w v zs) (hn : v = .slice none 0 0 ∨ ∃ x l c, v = .slice (some x) l c) (hwf : Wf zs) (hlen : zs.length ≤ 1048576) :
    Calls Try.prog 7 #[v] w fun e w' => e = .returned (.bool true) ∧ Below w.heap.size w w' := by
  rcases hn with rfl | ⟨x, l, c, rfl⟩
  · exact deltas_none w
  · obtain ⟨hz, hcells⟩ := hv.cellAt
    refine deltas_some x l c zs w hv hz ?_ hwf (by omega)
    intro j u hj
    have hjn : j < zs.length := by
      have := (List.getElem?_eq_some_iff.1 hj).1
      simpa [intsV] using this
    obtain ⟨g, o, h1, h2, h3⟩ := hcells (by omega)
    simp only [Option.some.injEq] at h1
    subst h1
    rw [Addr.add_lit]
    refine ⟨?_, h2⟩
    rw [h3 j hjn]
    simp [intsV, hjn] at hj
    rw [← hj]
end Go.Proofs.Ytjeicjnlhepaiaa
