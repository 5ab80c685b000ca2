/-
  Texts stand in the order of their characters: the walk of the statement.
-/
import Derived.Test.YthjbnhalbbpmcaaDoorUa
import Derived.Test.YthjbnhalbbpmcaaDoorUq
namespace Go.Proofs.YthjbnhalbbpmcaaDoor
open Go.RowKit

set_option maxRecDepth 100000 in
set_option maxHeartbeats 4000000 in
theorem order_walk (w : World) (u v : Value) (xs ys : List Int) (hu : IntS w u xs) (hv : IntS w v ys) (hx : xs.length ≤ 17592186043904) (hy : ys.length ≤ 17592186043904) (hT : Tabs w) :
    Calls Tryd.prog 8 #[u, v] w fun e w' => e = .returned (.bool true) ∧ Below w.heap.size w w' := by
  have h1 := encode_any w u xs hu (by omega)
  have h2 : Hid (∀ W, Below w.heap.size w W → Calls Tryd.prog 9 #[v] W (EncPost W ys)) := fun W hb => encode_any W v ys (hv.below hb (Nat.le_refl _)) (by omega)
  have h0 : Hid (∀ W, Below w.heap.size w W → Calls Tryd.prog 11 #[] W fun e' w' => e' = .returned (.bool true) ∧ Below w.heap.size w w') := fun W hb => (awake_any W (hT.below hb)).mono fun e' w' ⟨h1, h2⟩ => ⟨h1, hb.trans (h2.mono hb.size)⟩
  obtain ⟨X, hX⟩ : ∃ X : ByteArray, X = ⟨(Ut.encS xs).toArray⟩ := ⟨_, rfl⟩
  obtain ⟨Y, hY⟩ : ∃ Y : ByteArray, Y = ⟨(Ut.encS ys).toArray⟩ := ⟨_, rfl⟩
  have hl : Ut.allW xs = true → Ut.allW ys = true → Op.bytesLess X.toList Y.toList = Ut.less xs ys := by
    intro ha hb
    rw [hX, hY, Ut.encS_yes ha, Ut.encS_yes hb, ByteArray.toList_eq, ByteArray.toList_eq]
    exact Ut.less_enc xs ys ha hb
  have H1 : Hid (Calls Tryd.prog 9 #[u] w fun e w' => e = .returned (.tuple #[.string X, .int .i64 (Ut.encE xs)]) ∧ Below w.heap.size w w') := by rw [hX]; exact h1
  have H2 : Hid (∀ W, Below w.heap.size w W → Calls Tryd.prog 9 #[v] W fun e w' => e = .returned (.tuple #[.string Y, .int .i64 (Ut.encE ys)]) ∧ Below w.heap.size w w') := fun W hb => (h2.out W hb).mono fun e w' ⟨g1, g2⟩ => ⟨by rw [hY]; exact g1, hb.trans (g2.mono hb.size)⟩
  clear h1 h2 hX hY hT
  have hey : Ut.encE ys = 0 ∨ Ut.encE ys = 1 := by unfold Ut.encE; split <;> simp
  cases ha : Ut.allW xs
  · rw [Ut.encE_no ha] at H1
    generalize Ut.encE ys = f at *
    clear hl ha hey hu hv
    go_enter Tryd.func8, Tryd.ntmps8
    go_wp2_with fail
    refine H1.out.mono ?_
    rintro e w1 ⟨rfl, hb⟩
    have HB1 := Lib.hid hb
    clear hb
    go_wp2_with fail
    refine (H2.out w1 HB1.out).mono ?_
    rintro e w2 ⟨rfl, hb⟩
    have HB2 := Lib.hid hb
    clear hb
    go_wp2_with fail
    refine (h0.out w2 HB2.out).mono ?_
    rintro e w3 ⟨rfl, hb⟩
    have HB3 := Lib.hid hb
    clear hb
    go_wp2_with fail
    refine (h0.out w3 HB3.out).mono ?_
    rintro e w4 ⟨rfl, hb⟩
    have HB4 := Lib.hid hb
    clear hb
    go_wp2_with fail
    go_ret
    exact ⟨rfl, HB4.out⟩
  · rw [Ut.encE_yes ha] at H1
    cases hb' : Ut.allW ys
    · rw [Ut.encE_no hb'] at H2
      clear hl ha hey hu hv hb'
      go_enter Tryd.func8, Tryd.ntmps8
      go_wp2_with fail
      refine H1.out.mono ?_
      rintro e w1 ⟨rfl, hb⟩
      have HB1 := Lib.hid hb
      clear hb
      go_wp2_with fail
      refine (H2.out w1 HB1.out).mono ?_
      rintro e w2 ⟨rfl, hb⟩
      have HB2 := Lib.hid hb
      clear hb
      go_wp2_with fail
      refine (h0.out w2 HB2.out).mono ?_
      rintro e w3 ⟨rfl, hb⟩
      have HB3 := Lib.hid hb
      clear hb
      go_wp2_with fail
      refine (h0.out w3 HB3.out).mono ?_
      rintro e w4 ⟨rfl, hb⟩
      have HB4 := Lib.hid hb
      clear hb
      go_wp2_with fail
      go_ret
      exact ⟨rfl, HB4.out⟩
    · rw [Ut.encE_yes hb'] at H2
      have HL := Lib.hid (hl ha hb')
      obtain ⟨ua, uc, rfl, _, _, hu⟩ := hu
      obtain ⟨va, vc, rfl, _, _, hv⟩ := hv
      have HU := Lib.hid hu
      have HV := Lib.hid hv
      clear hl ha hb' hey hu hv
      obtain ⟨m, hm⟩ : ∃ m, m = xs.length := ⟨_, rfl⟩
      obtain ⟨n, hn⟩ : ∃ n, n = ys.length := ⟨_, rfl⟩
      have HM := Lib.hid hm
      have HN := Lib.hid hn
      rw [← hm] at hx H1 ⊢
      rw [← hn] at hy H2 ⊢
      clear hm hn
      go_enter Tryd.func8, Tryd.ntmps8
      go_wp2_with fail
      refine H1.out.mono ?_
      rintro e w1 ⟨rfl, hb⟩
      have HB1 := Lib.hid hb
      clear hb
      go_wp2_with fail
      refine (H2.out w1 HB1.out).mono ?_
      rintro e w2 ⟨rfl, hb⟩
      have HB2 := Lib.hid hb
      clear hb
      go_wp2_with fail
      refine (h0.out w2 HB2.out).mono ?_
      rintro e w3 ⟨rfl, hb⟩
      have HB3 := Lib.hid hb
      clear hb H1 H2 h0 HB1 HB2
      go_wp2_with fail
      go_loopg [9] m (fun g i wx => ∃ k : Nat, k ≤ m ∧ k ≤ n ∧ g = m - k ∧ i = .int .i64 k ∧ Hid (xs.take k = ys.take k) ∧ Below w.heap.size w wx)
      case atStart => exact ⟨0, Nat.zero_le _, Nat.zero_le _, rfl, rfl, by show _ = _; rw [List.take_zero, List.take_zero], HB3.out⟩
      case round =>
        obtain ⟨k, hk, hk2, rfl, rfl, hS, hbel⟩ := hrel
        have hla := Ut.less_at xs ys k (by rw [← HM.out]; exact hk) (by rw [← HN.out]; exact hk2) hS.out
        have HLA := Lib.hid hla
        clear hla
        by_cases hkm : k < m
        · have i1 : (k : Int) < (m : Int) := by omega
          have kx : k < xs.length := by rw [← HM.out]; exact hkm
          obtain ⟨g, o, rfl, hg, hcu⟩ := HU.out (by omega)
          by_cases hkn : k < n
          · have i2 : (k : Int) < (n : Int) := by omega
            have i0 : (0 : Int) ≤ (k : Int) := by omega
            have ky : k < ys.length := by rw [← HN.out]; exact hkn
            obtain ⟨g', o', rfl, hg', hcv⟩ := HV.out (by omega)
            have c1 : wr.cell? ⟨g, o + k, none⟩ = some (.int .i64 xs[k]) := (hbel.cell (p := ⟨g, o + k, none⟩) hg).trans (hcu k kx)
            have c2 : wr.cell? ⟨g', o' + k, none⟩ = some (.int .i64 ys[k]) := (hbel.cell (p := ⟨g', o' + k, none⟩) hg').trans (hcv k ky)
            have HBE := Lib.hid hbel
            by_cases he : xs[k] = ys[k]
            · have hst : Hid (xs.take (k + 1) = ys.take (k + 1)) := take_eq_snoc kx ky hS.out he
              have he' : (xs[k] == ys[k]) = true := by simpa using he
              clear hS he hcu hcv hbel HLA
              generalize xs[k] = x at *
              generalize ys[k] = y at *
              go_wp2_with fail
              go_quiet (fail)
              go_wp2_with fail
              go_roundg (m - (k + 1))
              case rel => exact ⟨k + 1, by omega, by omega, rfl, by go_num, hst, by first | exact HBE.out | exact belowN HBE.out _⟩
              case measure => omega
            · have hfin : Ut.less xs ys = decide (xs[k] < ys[k]) := by
                rw [HLA.out fun _ _ => he, decide_eq_true ky, decide_eq_false (by omega), dif_pos ⟨kx, ky⟩]
                rfl
              rw [← HL.out] at hfin
              have he' : (xs[k] == ys[k]) = false := by simpa using he
              have k1 : ((k : Int) == (m : Int)) = false := by simp; omega
              have he2 : ¬ xs[k] = ys[k] := he
              clear hS hcu hcv hbel HLA HL he
              generalize xs[k] = x at *
              generalize ys[k] = y at *
              by_cases hlt : x < y
              · rw [decide_eq_true hlt] at hfin
                go_wp2_with fail
                go_quiet (fail)
                go_wp2_with fail
                go_quiet (fail)
                go_wp2_with fail
                go_ret
                exact ⟨rfl, belowN HBE.out _⟩
              · rw [decide_eq_false hlt] at hfin
                go_wp2_with fail
                go_quiet (fail)
                go_wp2_with fail
                go_quiet (fail)
                go_wp2_with fail
                go_ret
                exact ⟨ret_bool (show (!decide (x < y)) = true by rw [decide_eq_false (show ¬ x < y by omega)]; rfl), belowN HBE.out _⟩
          · have i2 : ¬ (k : Int) < (n : Int) := by omega
            have hfin : Ut.less xs ys = false := by
              rw [HLA.out fun h1 h2 => absurd h2 (by rw [← HN.out]; exact hkn), decide_eq_false (by rw [← HN.out]; exact hkn)]
              rfl
            rw [← HL.out] at hfin
            have HBE := Lib.hid hbel
            clear hS hcu hbel HLA HL
            go_wp2_with fail
            go_quiet (fail)
            go_wp2_with fail
            go_quiet (fail)
            go_wp2_with fail
            go_ret
            exact ⟨rfl, belowN HBE.out _⟩
        · have i1 : ¬ (k : Int) < (m : Int) := by omega
          obtain rfl : k = m := by omega
          have k1 : ((k : Int) == (k : Int)) = true := by simp
          by_cases hkn : k < n
          · have i2 : (k : Int) < (n : Int) := by omega
            have hfin : Ut.less xs ys = true := by
              rw [HLA.out fun h1 h2 => absurd h1 (by rw [← HM.out]; omega), decide_eq_true (by rw [← HN.out]; exact hkn), decide_eq_true HM.out]
              rfl
            rw [← HL.out] at hfin
            have HBE := Lib.hid hbel
            clear hS hbel HLA HL
            go_wp2_with fail
            go_quiet (fail)
            go_wp2_with fail
            go_quiet (fail)
            go_wp2_with fail
            go_ret
            exact ⟨rfl, belowN HBE.out _⟩
          · have i2 : ¬ (k : Int) < (n : Int) := by omega
            have hfin : Ut.less xs ys = false := by
              rw [HLA.out fun h1 h2 => absurd h2 (by rw [← HN.out]; exact hkn), decide_eq_false (by rw [← HN.out]; exact hkn)]
              rfl
            rw [← HL.out] at hfin
            have HBE := Lib.hid hbel
            clear hS hbel HLA HL
            go_wp2_with fail
            go_quiet (fail)
            go_wp2_with fail
            go_quiet (fail)
            go_wp2_with fail
            go_ret
            exact ⟨rfl, belowN HBE.out _⟩
end Go.Proofs.YthjbnhalbbpmcaaDoor
