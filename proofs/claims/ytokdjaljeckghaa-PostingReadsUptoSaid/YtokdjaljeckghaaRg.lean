/-
  What the document's Read answers.
-/
import Derived.Test.YtokdjaljeckghaaPv
import Derived.Test.YtokdjaljeckghaaRa
namespace Go.Proofs.Ytokdjaljeckghaa
open Go.RowKit
namespace Pt
theorem nu_cap {s : List UInt8} {k : Nat} (h : er s k = 0) : (nu s k).length ≤ 128 * s.length := by
  obtain ⟨h1, _, h2, _⟩ := (Bp.pack_one (st s k) _ _ _ rfl).2.2 h
  have h3 := chB_ge _ (nu s k) (Nat.le_refl _)
  have h4 : (Bp.chB (nu s k).length (nu s k)).length ≤ (Bp.packB (nu s k)).length := by
    unfold Bp.packB
    rw [List.length_append]
    omega
  have h5 : (Bp.packB (nu s k)).length ≤ (st s k).length := by
    have e : Bp.packB (nu s k) = (st s k).take (Bp.rdPack (st s k)).2.1 := h2
    rw [e, List.length_take]
    omega
  have h6 := st_length s k
  omega
/-- What sums come to, one number on. -/
theorem sm_on (A : List Int) (k : Nat) (h : k < A.length) : (0 :: sm 0 A).getD (k + 1) 0 = Go.RowKit.wrap64 ((0 :: sm 0 A).getD k 0 + A[k]) ∧ (sm 0 A).take (k + 1) = (sm 0 A).take k ++ [Go.RowKit.wrap64 ((0 :: sm 0 A).getD k 0 + A[k])] := by
  have h2 : k < (sm 0 A).length := by rw [sm_length]; exact h
  have e : (sm 0 A)[k] = Go.RowKit.wrap64 ((0 :: sm 0 A).getD k 0 + A[k]) := by
    rw [sm_get A 0 k h h2, getD_at (0 :: sm 0 A) k (by rw [List.length_cons]; omega)]
  refine ⟨?_, ?_⟩
  · rw [getD_at (0 :: sm 0 A) (k + 1) (by rw [List.length_cons]; omega), List.getElem_cons_succ, e]
  · rw [List.take_succ_eq_append_getElem h2, e]
end Pt
/-- A posting in a box, its places a list of the call's own. -/
structure BxI (W wx : World) (x : Int) (va : Value) (l : List Int) : Prop where
  old : Below W.heap.size W wx
  box : wx.heap[W.heap.size]? = some (.cells #[.int .i64 x, va] 40 (0, 0))
  own : OwnI wx W.heap.size va l
theorem BxI.new (W : World) (x : Int) : BxI W (W.alloc (.cells #[.int .i64 x, .slice none 0 0] 40)) x (.slice none 0 0) [] :=
  ⟨(Below.refl _ _).alloc (Nat.le_refl _) _, Go.Deep.blk_alloc_new _ _, OwnI.nil _ _⟩
theorem BxI.push {W wx w' : World} {x y : Int} {va v' : Value} {l : List Int} {o : Obj} (h : BxI W wx x va l) (ho : OwnI w' W.heap.size v' (l ++ [y])) (hb : Below W.heap.size (wx.alloc o) w') (hm : Moved (wx.alloc o) w' va v') : BxI W (w'.setCell ⟨W.heap.size, 1, none⟩ v') x v' (l ++ [y]) ∧ w'.heap[W.heap.size]? = some (.cells #[.int .i64 x, va] 40 (0, 0)) := by
  have hm2 := hm.pre
  have hbx : w'.heap[W.heap.size]? = some (.cells #[.int .i64 x, va] 40 (0, 0)) := (hm2.1 _ (blk_lt h.box) (h.own.far h.box (by decide))).trans h.box
  refine ⟨⟨((h.old.alloc h.old.size o).trans hb).setCell (p := ⟨W.heap.size, 1, none⟩) (Nat.le_refl _) v', ?_, ho.keepB fun k hk => heap_other _ _ _ _ _ fun e => ho.far hbx (by decide) (e ▸ hk)⟩, hbx⟩
  rw [heap_set _ _ _ _ _ _ _ hbx]
  rfl
/-- What the document's Read answers. -/
def RdR (w : World) (S : List UInt8) (e : Ending) (w' : World) : Prop := ∃ v vs, e = .returned (.tuple #[v, .int .i64 (Pt.read S).2]) ∧ OwnP w' w.heap.size v (Pt.read S).1 vs ∧ Below w.heap.size w w'
set_option maxRecDepth 100000 in
set_option maxHeartbeats 8000000 in
theorem readR14_any (w : World) (s : ByteArray) (hs : s.size ≤ 1048576) :
    Calls Try.prog 18 #[.string s] w (RdR w s.data.toList) := by
  obtain ⟨S, hS⟩ : ∃ S, S = s.data.toList := ⟨_, rfl⟩
  have hSl : S.length = s.size := by rw [hS]; simp
  have HS : Hid (s.data.toList = S) := hS.symm
  rw [← hS]
  obtain ⟨z0, hz0⟩ : ∃ z, z = (Bp.rdPack (Pt.st S 0)).2.1 := ⟨_, rfl⟩
  obtain ⟨z1, hz1⟩ : ∃ z, z = (Bp.rdPack (Pt.st S 1)).2.1 := ⟨_, rfl⟩
  obtain ⟨z2, hz2⟩ : ∃ z, z = (Bp.rdPack (Pt.st S 2)).2.1 := ⟨_, rfl⟩
  have l0 := Pt.rd_le (Pt.st S 0)
  have l1 := Pt.rd_le (Pt.st S 1)
  have l2 := Pt.rd_le (Pt.st S 2)
  have n0 : (Pt.st S 0).length = S.length := rfl
  have n1 : (Pt.st S 1).length = (Pt.st S 0).length - (Bp.rdPack (Pt.st S 0)).2.1 := List.length_drop
  have n2 : (Pt.st S 2).length = (Pt.st S 1).length - (Bp.rdPack (Pt.st S 1)).2.1 := List.length_drop
  have n3 : (Pt.st S 3).length = (Pt.st S 2).length - (Bp.rdPack (Pt.st S 2)).2.1 := List.length_drop
  rw [← hz0] at l0 n1
  rw [← hz1] at l1 n2
  rw [← hz2] at l2 n3
  obtain ⟨y, hy⟩ : ∃ y, y = z0 + z1 := ⟨_, rfl⟩
  obtain ⟨t, ht⟩ : ∃ t, t = y + z2 := ⟨_, rfl⟩
  have hb1 : z0 ≤ s.size := by omega
  have hb2 : y ≤ s.size := by omega
  have hb3 : t ≤ s.size := by omega
  have HQ : Hid (t < s.size ↔ Pt.st S 3 ≠ []) := by
    show _ ↔ _
    rw [← List.length_pos_iff]
    omega
  have d1 : Hid ((s.extract z0 s.size).data.toList = Pt.st S 1) := by
    show _ = _
    have h := rest_data s ((z0 : Nat) : Int)
    unfold rest at h
    rw [Int.toNat_natCast] at h
    rw [h, HS.out, hz0]
    rfl
  have d2 : Hid ((s.extract y s.size).data.toList = Pt.st S 2) := by
    show _ = _
    have h := rest_data s ((y : Nat) : Int)
    unfold rest at h
    rw [Int.toNat_natCast] at h
    rw [h, HS.out]
    show S.drop y = (Pt.st S 1).drop (Bp.rdPack (Pt.st S 1)).2.1
    rw [← hz1]
    show S.drop y = (S.drop (Bp.rdPack (Pt.st S 0)).2.1).drop z1
    rw [← hz0, List.drop_drop, hy]
  have f1 : IntKind.i64.wrap ((z0 : Int) + (z1 : Int)) = (y : Int) := by rw [hy, ← Int.natCast_add]; exact IntWalk.i64_in _ (by omega)
  have f2 : IntKind.i64.wrap ((y : Int) + (z2 : Int)) = (t : Int) := by rw [ht, ← Int.natCast_add]; exact IntWalk.i64_in _ (by omega)
  have hrd : Hid (∀ (W : World) (r : ByteArray) (k : Nat), r.data.toList = Pt.st S k → Calls Try.prog 35 #[.string r] W fun e w' => ∃ v, e = .returned (.tuple #[v, .int .i64 ((Bp.rdPack (Pt.st S k)).2.1 : Nat), .int .i64 (Pt.er S k)]) ∧ OwnI w' W.heap.size v ((Pt.nu S k).map Int.ofNat) ∧ Below W.heap.size W w') := fun W r k hr => by
    have hk := Pt.st_length S k
    have hrl : r.size ≤ 1048576 := by
      have : r.data.toList.length = r.size := by simp
      rw [hr] at this
      omega
    exact readR_any r (by omega) W (Pt.nu S k) (Bp.rdPack (Pt.st S k)).2.1 (Pt.er S k) (by rw [hr]; rfl)
  have R0 : Hid (∀ W, Calls Try.prog 35 #[.string s] W fun e w' => ∃ v, e = .returned (.tuple #[v, .int .i64 (z0 : Int), .int .i64 (Pt.er S 0)]) ∧ OwnI w' W.heap.size v ((Pt.nu S 0).map Int.ofNat) ∧ Below W.heap.size W w') := fun W => by rw [hz0]; exact hrd.out W s 0 HS.out
  have R1 : Hid (∀ W, Calls Try.prog 35 #[.string (s.extract z0 s.size)] W fun e w' => ∃ v, e = .returned (.tuple #[v, .int .i64 (z1 : Int), .int .i64 (Pt.er S 1)]) ∧ OwnI w' W.heap.size v ((Pt.nu S 1).map Int.ofNat) ∧ Below W.heap.size W w') := fun W => by rw [hz1]; exact hrd.out W _ 1 d1.out
  have R2 : Hid (∀ W, Calls Try.prog 35 #[.string (s.extract y s.size)] W fun e w' => ∃ v, e = .returned (.tuple #[v, .int .i64 (z2 : Int), .int .i64 (Pt.er S 2)]) ∧ OwnI w' W.heap.size v ((Pt.nu S 2).map Int.ofNat) ∧ Below W.heap.size W w') := fun W => by rw [hz2]; exact hrd.out W _ 2 d2.out
  have HRD := Lib.hid (Pt.read_st S)
  have hcap : Hid (∀ k, Pt.er S k = 0 → (Pt.nu S k).length ≤ 134217728) := fun k h => by have := Pt.nu_cap h; omega
  have hlt : Hid (∀ k, Pt.er S k = 0 → ∀ x ∈ Pt.nu S k, x < 9223372036854775808) := fun k h => Pt.nu_lt h
  clear hrd l0 l1 l2 n0 n1 n2 n3 hz0 hz1 hz2 hy ht hSl hS d1 d2
  by_cases E0 : Pt.er S 0 = 0
  · by_cases E1 : Pt.er S 1 = 0
    · by_cases E2 : Pt.er S 2 = 0
      · have hC0 := Lib.hid (hcap.out 0 E0)
        have hC2 := Lib.hid (hcap.out 2 E2)
        have hL1 := Lib.hid (hlt.out 1 E1)
        have HR0 : Hid (Pt.read S = if Pt.st S 3 ≠ [] then ([], 5) else Pt.mk (Pt.nu S 0) (Pt.nu S 1) (Pt.nu S 2)) := by
          show _ = _
          rw [HRD.out, if_neg (by simpa using E0), if_neg (by simpa using E1), if_neg (by simpa using E2)]
        rw [E0] at R0
        rw [E1] at R1
        rw [E2] at R2
        clear HRD hcap hlt E0 E1 E2
        by_cases T : t < s.size
        · have HR1 : Hid (Pt.read S = ([], 5)) := by show _ = _; rw [HR0.out, if_pos (HQ.out.1 T)]
          have i1 : (t : Int) < (s.size : Int) := by omega
          clear HR0
          go_enter Try.func18, Try.ntmps18
          go_wp2_with (first
            | (go_at_call 35; refine (R0.out w).mono ?_; rintro e1 w1 ⟨v1, rfl, hO1, hb1⟩; have HB1 := Lib.hid hb1; obtain ⟨a1, c1, rfl⟩ := hO1.form; clear hO1 hb1 R0)
            | (go_at_call 35; refine (R1.out w1).mono ?_; rintro e1 w2 ⟨v2, rfl, hO2, hb2⟩; have HB2 := Lib.hid (HB1.out.trans (hb2.mono HB1.out.size)); obtain ⟨a2, c2, rfl⟩ := hO2.form; clear hO2 hb2 R1)
            | (go_at_call 35; refine (R2.out w2).mono ?_; rintro e1 w3 ⟨v3, rfl, hO3, hb3⟩; have HB3 := Lib.hid (HB2.out.trans (hb3.mono HB2.out.size)); obtain ⟨a3, c3, rfl⟩ := hO3.form; clear hO3 hb3 R2))
          go_ret2
          exact ⟨.slice none 0 0, [], by rw [HR1.out]; rfl, by rw [HR1.out]; exact OwnP.nil _ _, HB3.out⟩
        · have HRD1 : Hid (Pt.read S = Pt.mk (Pt.nu S 0) (Pt.nu S 1) (Pt.nu S 2)) := by show _ = _; rw [HR0.out, if_neg (fun h => T (HQ.out.2 h))]
          have i1 : ¬ (t : Int) < (s.size : Int) := by omega
          have i1d : decide (t < s.size) = false := decide_eq_false (by omega)
          have i1e : decide ((t : Int) < (s.size : Int)) = false := decide_eq_false i1
          clear HR0 HQ T
          generalize Pt.nu S 0 = aN at *
          generalize Pt.nu S 1 = bN at *
          generalize Pt.nu S 2 = cN at *
          obtain ⟨A, hA⟩ : ∃ A, A = aN.map Int.ofNat := ⟨_, rfl⟩
          obtain ⟨C, hC⟩ : ∃ C, C = cN.map Int.ofNat := ⟨_, rfl⟩
          obtain ⟨n, hn⟩ : ∃ n, n = A.length := ⟨_, rfl⟩
          obtain ⟨m, hm⟩ : ∃ m, m = bN.length := ⟨_, rfl⟩
          obtain ⟨q, hq⟩ : ∃ q, q = C.length := ⟨_, rfl⟩
          have hna : Hid (aN.length = n) := by show _ = _; rw [hn, hA, List.length_map]
          have hqc : Hid (cN.length = q) := by show _ = _; rw [hq, hC, List.length_map]
          have hnb : n ≤ 134217728 := by have := hC0.out; have := hna.out; omega
          have HA := Lib.hid hA
          have HC := Lib.hid hC
          have HN := Lib.hid hn
          have HM := Lib.hid hm
          have HQ := Lib.hid hq
          rw [← hA] at R0
          rw [← hC] at R2
          have HCALL : Hid (∀ W, Calls Try.prog 35 #[.string (s.extract z0 s.size)] W fun e w' => ∃ a c, e = .returned (.tuple #[.slice a m c, .int .i64 (z1 : Int), .int .i64 0]) ∧ OwnI w' W.heap.size (.slice a m c) (bN.map Int.ofNat) ∧ Below W.heap.size W w') := fun W => by
            refine (R1.out W).mono ?_
            rintro e w' ⟨v, rfl, hO, hb⟩
            obtain ⟨a, c, rfl⟩ := hO.form
            rw [List.length_map, ← HM.out] at hO ⊢
            exact ⟨a, c, rfl, hO, hb⟩
          have HCAL0 : Hid (∀ W, Calls Try.prog 35 #[.string s] W fun e w' => ∃ a c, e = .returned (.tuple #[.slice a n c, .int .i64 (z0 : Int), .int .i64 0]) ∧ OwnI w' W.heap.size (.slice a n c) A ∧ Below W.heap.size W w') := fun W => by
            refine (R0.out W).mono ?_
            rintro e w' ⟨v, rfl, hO, hb⟩
            obtain ⟨a, c, rfl⟩ := hO.form
            rw [← HN.out] at hO ⊢
            exact ⟨a, c, rfl, hO, hb⟩
          have HCAL2 : Hid (∀ W, Calls Try.prog 35 #[.string (s.extract y s.size)] W fun e w' => ∃ a c, e = .returned (.tuple #[.slice a q c, .int .i64 (z2 : Int), .int .i64 0]) ∧ OwnI w' W.heap.size (.slice a q c) C ∧ Below W.heap.size W w') := fun W => by
            refine (R2.out W).mono ?_
            rintro e w' ⟨v, rfl, hO, hb⟩
            obtain ⟨a, c, rfl⟩ := hO.form
            rw [← HQ.out] at hO ⊢
            exact ⟨a, c, rfl, hO, hb⟩
          clear R0 R1 R2 hA hC hn hm hq
          by_cases hnm : n = m
          · subst hnm
            have HR2 : Hid ((Pt.cut bN C = none → Pt.mk aN bN cN = ([], 3)) ∧ ∀ t, Pt.cut bN C = some t → Pt.mk aN bN cN = if Pt.chk (-1) (List.zipWith Pt.Po.mk (sm 0 A) t) = 0 then (List.zipWith Pt.Po.mk (sm 0 A) t, 0) else ([], 3)) := by
              refine ⟨fun h => ?_, fun t h => ?_⟩
              · unfold Pt.mk
                rw [if_neg (by rw [hna.out, ← HM.out]; simp), ← HC.out, h]
              · unfold Pt.mk
                rw [if_neg (by rw [hna.out, ← HM.out]; simp), ← HC.out, h, ← HA.out]
            go_enter Try.func18, Try.ntmps18
            go_wp2_with (first
              | (go_at_call 35; refine (HCAL0.out w).mono ?_; rintro e1 w1 ⟨a1, c1, rfl, hO1, hb1⟩; have HB1 := Lib.hid hb1; have HO1 := Lib.hid hO1; clear hO1 hb1 HCAL0)
              | (go_at_call 35; refine (HCALL.out w1).mono ?_; rintro e1 w2 ⟨a2, c2, rfl, hO2, hb2⟩; have HB2 := Lib.hid (HB1.out.trans (hb2.mono HB1.out.size)); have HO2 := Lib.hid hO2; have HO12 := Lib.hid (HO1.out.below hb2); clear hO2 hb2 HCALL)
              | (go_at_call 35; refine (HCAL2.out w2).mono ?_; rintro e1 w3 ⟨a3, c3, rfl, hO3, hb3⟩; have HB3 := Lib.hid (HB2.out.trans (hb3.mono HB2.out.size)); have HO3 := Lib.hid hO3; have HO13 := Lib.hid (HO12.out.below hb3); have HO23 := Lib.hid (HO2.out.below hb3); clear hO3 hb3 HO12 HCAL2))
            have HLC := Lib.hid HO3.out.intL
            have HAc : Hid (0 < A.length → ∃ g o, a1 = some ⟨g, o, none⟩ ∧ g < w3.heap.size ∧ ∀ j (_ : j < A.length), w3.cell? ⟨g, o + j, none⟩ = some (.int .i64 A[j])) := by
              obtain ⟨a', c', h1, _, _, h4⟩ := HO13.out.intF.ints
              injection h1 with q1 _ _
              subst q1
              exact h4
            have HBc : Hid (0 < (bN.map Int.ofNat).length → ∃ g o, a2 = some ⟨g, o, none⟩ ∧ g < w3.heap.size ∧ ∀ j (_ : j < (bN.map Int.ofNat).length), w3.cell? ⟨g, o + j, none⟩ = some (.int .i64 (bN.map Int.ofNat)[j])) := by
              obtain ⟨a', c', h1, _, _, h4⟩ := HO23.out.intF.ints
              injection h1 with q1 _ _
              subst q1
              exact h4
            clear HO13 HO23
            obtain ⟨B, hB⟩ : ∃ B, B = w3.heap.size := ⟨_, rfl⟩
            have HBB : Hid (w.heap.size ≤ B) := by show _ ≤ _; rw [hB]; exact HB3.out.size
            have HBW : Hid (w3.heap.size = B) := hB.symm
            clear hB HB1 HB2 HO1 HO2 HO3
            go_loopg [9, 11, 12, 13] n (fun g cv ov dv iv wx => ∃ (k : Nat) (t1 : List (List Int)) (L : List Int) (vs : List Value), k ≤ n ∧ g = n - k ∧ iv = .int .i64 k ∧ dv = .int .i64 ((0 :: sm 0 A).getD k 0) ∧ Hid (t1.length = k) ∧ Hid (IntL w3 cv L) ∧ Hid (L.length ≤ 134217728) ∧ Hid (Pt.cut bN C = (Pt.cut (bN.drop k) L).map (t1 ++ ·)) ∧ Hid (OwnP wx B ov (List.zipWith Pt.Po.mk ((sm 0 A).take k) t1) vs) ∧ Hid (Below B w3 wx))
            case atStart => exact ⟨0, [], C, [], Nat.zero_le _, rfl, rfl, rfl, rfl, HLC.out, by show _ ≤ _; rw [HC.out, List.length_map]; exact hC2.out, by show _ = _; simp, OwnP.nil _ _, by show Below _ _ _; exact Below.refl _ _⟩
            case round =>
              obtain ⟨k, t1, L, vs, hk, rfl, rfl, rfl, HT, HL, HLl, HCUT, HO, HBE⟩ := hrel
              obtain ⟨W0, rfl⟩ : ∃ W0, W0 = wr := ⟨wr, rfl⟩
              by_cases hkn : k < n
              · have i2 : (k : Int) < (n : Int) := by omega
                have kA : k < A.length := by rw [← HN.out]; exact hkn
                have kB : k < bN.length := by rw [← HM.out]; exact hkn
                have hsm := Pt.sm_on A k kA
                have hnext : Hid (∀ ats, List.zipWith Pt.Po.mk ((sm 0 A).take k) t1 ++ [⟨wrap64 ((0 :: sm 0 A).getD k 0 + A[k]), ats⟩] = List.zipWith Pt.Po.mk ((sm 0 A).take (k + 1)) (t1 ++ [ats])) := by
                  intro ats
                  rw [hsm.2, List.zipWith_append (by rw [List.length_take, HT.out, sm_length]; omega)]
                  rfl
                have hnd : Hid ((0 :: sm 0 A).getD (k + 1) 0 = wrap64 ((0 :: sm 0 A).getD k 0 + A[k])) := hsm.1
                have hlen : Hid ((List.zipWith Pt.Po.mk ((sm 0 A).take k) t1).length = k) := by show _ = _; rw [List.length_zipWith, List.length_take, HT.out, sm_length]; omega
                obtain ⟨gA, oA, rfl, gA1, gA2⟩ := HAc.out (by rw [← HN.out]; omega)
                obtain ⟨gB, oB, rfl, gB1, gB2⟩ := HBc.out (by rw [List.length_map, ← HM.out]; omega)
                have HR1 : Hid (gA < w3.heap.size ∧ w3.cell? ⟨gA, oA + k, none⟩ = some (.int .i64 A[k])) := ⟨gA1, gA2 k kA⟩
                have HR2c : Hid (gB < w3.heap.size ∧ w3.cell? ⟨gB, oB + k, none⟩ = some (.int .i64 ((bN[k] : Nat) : Int))) := ⟨gB1, by
                  rw [gB2 k (by rw [List.length_map]; exact kB), List.getElem_map]
                  rfl⟩
                have hml := hL1.out bN[k] (List.getElem_mem kB)
                have hcd := HCUT.out
                rw [drop_at kB, Pt.cut_cons] at hcd
                have HBB2 : Hid (Below w3.heap.size w3 W0) := by have := HBE.out; rwa [← HBW.out] at this
                have r1 : W0.cell? ⟨gA, oA + k, none⟩ = some (.int .i64 A[k]) := (HBB2.out.cell (p := ⟨gA, oA + k, none⟩) HR1.out.1).trans HR1.out.2
                have r2 : W0.cell? ⟨gB, oB + k, none⟩ = some (.int .i64 ((bN[k] : Nat) : Int)) := (HBB2.out.cell (p := ⟨gB, oB + k, none⟩) HR2c.out.1).trans HR2c.out.2
                obtain ⟨bR, hbR⟩ : ∃ bR, bR = bN.drop (k + 1) := ⟨_, rfl⟩
                have HBR := Lib.hid hbR
                rw [← hbR] at hcd
                clear hbR gA2 gB2 gA1 gB1 hsm HCUT
                generalize A[k] = ak at *
                generalize bN[k] = mk at *
                generalize (0 :: sm 0 A).getD k 0 = pd at *
                have hlenb : Hid ((List.zipWith Pt.Po.mk ((sm 0 A).take k) t1).length + 1 ≤ 1099511627776) := by
                  show _ ≤ _
                  rw [hlen.out]
                  have := hC0.out
                  have := hna.out
                  omega
                obtain ⟨ao, co, hvo⟩ : ∃ ao co, u11 = .slice ao k co := by
                  obtain ⟨_, ao, co, h1, _⟩ := HO.out.opened
                  rw [hlen.out] at h1
                  exact ⟨ao, co, h1⟩
                subst hvo
                rcases HL.out.2 with ⟨hv9, hLe⟩ | ⟨gL, oL, cL, hv9⟩
                · subst hv9 hLe
                  by_cases hlm : 0 < mk
                  · have hfit : Hid (Pt.read S = ([], 3)) := by
                      rw [if_pos (by simpa using hlm)] at hcd
                      show _ = _
                      rw [HRD1.out, HR2.out.1 hcd]
                    have i3 : (0 : Int) < (mk : Int) := by omega
                    clear hcd HL
                    go_wp2_with fail
                    go_ret2
                    exact ⟨.slice none 0 0, [], by rw [hfit.out]; rfl, by rw [hfit.out]; exact OwnP.nil _ _, HB3.out.trans (HBE.out.mono HBB.out)⟩
                  · obtain rfl : mk = 0 := by omega
                    have i3 : ¬ (0 : Int) < ((0 : Nat) : Int) := by omega
                    have hcd2 : Hid (Pt.cut bN C = ((Pt.cut bR (([] : List Int).drop 0)).map fun t => sm 0 (([] : List Int).take 0) :: t).map (t1 ++ ·)) := by
                      rw [if_neg (by simp)] at hcd
                      exact hcd
                    have HLr := Lib.hid HL.out
                    clear hcd hlm
                    go_wp2_with fail
                    go_loopg [15, 16] 0 (fun g' av jv wx => ∃ (j : Nat) (va : Value), j ≤ 0 ∧ g' = 0 - j ∧ jv = .int .i64 j ∧ av = .int .i64 ((0 :: sm 0 (([] : List Int).take 0)).getD j 0) ∧ Hid (BxI W0 wx (wrap64 (pd + ak)) va ((sm 0 (([] : List Int).take 0)).take j)))
                    case atStart => exact ⟨0, .slice none 0 0, Nat.zero_le _, rfl, rfl, rfl, BxI.new W0 _⟩
                    case round =>
                      obtain ⟨j, va, hj, rfl, rfl, rfl, HX⟩ := hrel
                      have r5 := (HX.out.old.cell (p := ⟨gB, oB + k, none⟩) (Nat.lt_of_lt_of_le HR2c.out.1 HBB2.out.size)).trans r2
                      clear r1 r2
                      by_cases hjm : j < 0
                      · omega
                      · obtain rfl : j = 0 := by omega
                        have e9 : (sm 0 (([] : List Int).take 0)).take 0 = sm 0 (([] : List Int).take 0) := List.take_of_length_le (by rw [sm_length, List.length_take]; omega)
                        have hX2 := HX.out
                        rw [e9] at hX2
                        have HX2 := Lib.hid hX2
                        obtain ⟨av9, cv9, hv9⟩ := hX2.own.form
                        obtain ⟨x0, x1⟩ := po_box hX2.box
                        obtain ⟨ml, hmlz⟩ : ∃ ml, ml = (sm 0 (([] : List Int).take 0)).length := ⟨_, rfl⟩
                        rw [← hmlz] at hv9
                        clear e9 hX2 HX hmlz
                        subst hv9
                        go_wp2_with (at_builtin; go_loud (refine wpList_pushP (w := wr) rfl _ _ rfl B (Nat.le_trans (HBW.out ▸ HBB2.out.size) HX2.out.old.size) (.slice ao k co) (List.zipWith Pt.Po.mk ((sm 0 A).take k) t1) vs (wrap64 (pd + ak)) (.slice av9 ml cv9) (sm 0 (([] : List Int).take 0)) rfl (HO.out.below HX2.out.old) (HX2.out.own.base (HBW.out ▸ HBB2.out.size)) rfl hlenb.out ?_; intro v8 w8 hO8 hB8; have HO8 := Lib.hid hO8; have HB8 := Lib.hid hB8; clear hO8 hB8))
                        go_roundg (n - (k + 1))
                        case rel => exact ⟨k + 1, t1 ++ [sm 0 (([] : List Int).take 0)], ([] : List Int).drop 0, _, by omega, rfl, by go_num, by rw [hnd.out], by show _ = _; rw [List.length_append, HT.out]; rfl, HLr.out, by show _ ≤ _; rw [List.length_drop]; have := HLl.out; omega, by show _ = _; rw [hcd2.out, HBR.out, Option.map_map]; congr 1; funext y; simp, by show OwnP _ _ _ _ _; rw [← hnext.out]; exact HO8.out, by show Below _ _ _; exact (HBE.out.trans (HX2.out.old.mono (HBW.out ▸ HBB2.out.size))).trans HB8.out⟩
                        case measure => omega
                · subst hv9
                  obtain ⟨_, g2, g3⟩ := HL.out.1.fits
                  obtain ⟨nL, hnL⟩ : ∃ nL, nL = L.length := ⟨_, rfl⟩
                  have HNL := Lib.hid hnL
                  rw [← hnL] at HL g2 hcd ⊢
                  clear hnL
                  by_cases hlm : nL < mk
                  · have hfit : Hid (Pt.read S = ([], 3)) := by
                      rw [if_pos hlm] at hcd
                      show _ = _
                      rw [HRD1.out, HR2.out.1 hcd]
                    have i3 : (nL : Int) < (mk : Int) := by omega
                    clear hcd HL
                    go_wp2_with fail
                    go_ret2
                    exact ⟨.slice none 0 0, [], by rw [hfit.out]; rfl, by rw [hfit.out]; exact OwnP.nil _ _, HB3.out.trans (HBE.out.mono HBB.out)⟩
                  · have i3 : ¬ (nL : Int) < (mk : Int) := by omega
                    have hcd2 : Hid (Pt.cut bN C = ((Pt.cut bR (L.drop mk)).map fun t => sm 0 (L.take mk) :: t).map (t1 ++ ·)) := by
                      rw [if_neg hlm] at hcd
                      exact hcd
                    have HLm : Hid (mk ≤ L.length) := by show _ ≤ _; rw [← HNL.out]; omega
                    have HLr0 := HL.out.1.drop mk HLm.out
                    have i4 : mk ≤ nL := by omega
                    clear hcd hlm
                    by_cases hcm : cL = mk
                    · subst hcm
                      rw [if_pos rfl, show nL - cL = 0 by omega, Nat.sub_self] at HLr0
                      have HLr := Lib.hid HLr0
                      clear HLr0
                      go_wp2_with fail
                      go_loopg [15, 16] cL (fun g' av jv wx => ∃ (j : Nat) (va : Value), j ≤ cL ∧ g' = cL - j ∧ jv = .int .i64 j ∧ av = .int .i64 ((0 :: sm 0 (L.take cL)).getD j 0) ∧ Hid (BxI W0 wx (wrap64 (pd + ak)) va ((sm 0 (L.take cL)).take j)))
                      case atStart => exact ⟨0, .slice none 0 0, Nat.zero_le _, rfl, rfl, rfl, BxI.new W0 _⟩
                      case round =>
                        obtain ⟨j, va, hj, rfl, rfl, rfl, HX⟩ := hrel
                        have r5 := (HX.out.old.cell (p := ⟨gB, oB + k, none⟩) (Nat.lt_of_lt_of_le HR2c.out.1 HBB2.out.size)).trans r2
                        clear r1 r2
                        by_cases hjm : j < cL
                        · have j2 : (j : Int) < (cL : Int) := by omega
                          have jl : j < L.length := Nat.lt_of_lt_of_le hjm HLm.out
                          have jL : j < (L.take cL).length := by rw [List.length_take]; omega
                          have hsm2 := Pt.sm_on (L.take cL) j jL
                          rw [List.getElem_take] at hsm2
                          have hny : Hid ((0 :: sm 0 (L.take cL)).getD (j + 1) 0 = wrap64 ((0 :: sm 0 (L.take cL)).getD j 0 + L[j])) := hsm2.1
                          have hnx : Hid ((sm 0 (L.take cL)).take (j + 1) = (sm 0 (L.take cL)).take j ++ [wrap64 ((0 :: sm 0 (L.take cL)).getD j 0 + L[j])]) := hsm2.2
                          have hlj : ((sm 0 (L.take cL)).take j).length = j := by rw [List.length_take, sm_length]; omega
                          have hll : Hid (((sm 0 (L.take cL)).take j).length + 1 ≤ 17179869184) := by show _ ≤ _; rw [hlj]; have := HLl.out; omega
                          obtain ⟨av9, cv9, hv9⟩ := HX.out.own.form
                          rw [hlj] at hv9
                          have HLc : Hid (gL < w3.heap.size ∧ w3.cell? ⟨gL, oL + j, none⟩ = some (.int .i64 L[j])) := by
                            obtain ⟨a', c', h1, _, _, h4⟩ := HL.out.1
                            injection h1 with q1 _ _
                            obtain ⟨g', o', h5, h6, h7⟩ := h4 (by omega)
                            rw [h5] at q1
                            injection q1 with q2
                            injection q2 with q3 q4 _
                            subst q3 q4
                            exact ⟨h6, h7 j jl⟩
                          have c5 : wr.cell? ⟨gL, oL + j, none⟩ = some (.int .i64 L[j]) := (HX.out.old.cell (p := ⟨gL, oL + j, none⟩) (Nat.lt_of_lt_of_le HLc.out.1 HBB2.out.size)).trans ((HBB2.out.cell (p := ⟨gL, oL + j, none⟩) HLc.out.1).trans HLc.out.2)
                          obtain ⟨x0, x1⟩ := po_box HX.out.box
                          obtain ⟨lx, hlx⟩ : ∃ lx, lx = L[j] := ⟨_, rfl⟩
                          rw [← hlx] at hny hnx c5
                          generalize (0 :: sm 0 (L.take cL)).getD j 0 = pz at *
                          generalize (sm 0 (L.take cL)).take j = LJ at *
                          clear hsm2 hlj HLc hlx
                          subst hv9
                          go_wp2_with (at_builtin; go_loud (refine wpList_appendM (F := fun _ => True) rfl _ _ rfl rfl W0.heap.size (Nat.le_trans HX.out.old.size (by simp)) (.slice av9 j cv9) (.slice (some ⟨wr.heap.size, 0, none⟩) 1 1) LJ [wrap64 (pz + lx)] rfl rfl (HX.out.own.alloc _) (one_int' _ _ rfl _) hll.out ?_; intro v8 w8 hO8 hB8 hM8; obtain ⟨hX8, hbx8⟩ := HX.out.push hO8 hB8 hM8; obtain ⟨b1, b2⟩ := po_box hbx8; have b3 : w8.frozen? ⟨W0.heap.size, 1, none⟩ = false := (by simp [World.frozen?, hbx8]); obtain ⟨a8, c8, hv8⟩ := hO8.form; obtain ⟨m8, hm8⟩ : ∃ m8, m8 = (LJ ++ [wrap64 (pz + lx)]).length := ⟨_, rfl⟩; rw [← hm8] at hv8; clear hm8 hO8 hB8 hM8 hbx8; subst hv8; have HX8 := Lib.hid hX8; clear hX8))
                          go_roundg (cL - (j + 1))
                          case rel => exact ⟨j + 1, _, by omega, rfl, by go_num, by rw [hny.out], by show BxI _ _ _ _ _; rw [hnx.out]; exact HX8.out⟩
                          case measure => omega
                        · have ej : cL = j := by omega
                          subst ej
                          have e9 : (sm 0 (L.take cL)).take cL = sm 0 (L.take cL) := List.take_of_length_le (by rw [sm_length, List.length_take]; omega)
                          have hX2 := HX.out
                          rw [e9] at hX2
                          have HX2 := Lib.hid hX2
                          obtain ⟨av9, cv9, hv9⟩ := hX2.own.form
                          obtain ⟨x0, x1⟩ := po_box hX2.box
                          obtain ⟨ml, hmlz⟩ : ∃ ml, ml = (sm 0 (L.take cL)).length := ⟨_, rfl⟩
                          rw [← hmlz] at hv9
                          clear e9 hX2 HX hmlz
                          subst hv9
                          go_wp2_with (at_builtin; go_loud (refine wpList_pushP (w := wr) rfl _ _ rfl B (Nat.le_trans (HBW.out ▸ HBB2.out.size) HX2.out.old.size) (.slice ao k co) (List.zipWith Pt.Po.mk ((sm 0 A).take k) t1) vs (wrap64 (pd + ak)) (.slice av9 ml cv9) (sm 0 (L.take cL)) rfl (HO.out.below HX2.out.old) (HX2.out.own.base (HBW.out ▸ HBB2.out.size)) rfl hlenb.out ?_; intro v8 w8 hO8 hB8; have HO8 := Lib.hid hO8; have HB8 := Lib.hid hB8; clear hO8 hB8))
                          go_roundg (n - (k + 1))
                          case rel => exact ⟨k + 1, t1 ++ [sm 0 (L.take cL)], L.drop cL, _, by omega, rfl, by go_num, by rw [hnd.out], by show _ = _; rw [List.length_append, HT.out]; rfl, HLr.out, by show _ ≤ _; rw [List.length_drop]; have := HLl.out; omega, by show _ = _; rw [hcd2.out, HBR.out, Option.map_map]; congr 1; funext y; simp, by show OwnP _ _ _ _ _; rw [← hnext.out]; exact HO8.out, by show Below _ _ _; exact (HBE.out.trans (HX2.out.old.mono (HBW.out ▸ HBB2.out.size))).trans HB8.out⟩
                          case measure => omega
                    · rw [if_neg hcm] at HLr0
                      have HLr := Lib.hid HLr0
                      clear HLr0
                      go_wp2_with fail
                      go_loopg [15, 16] mk (fun g' av jv wx => ∃ (j : Nat) (va : Value), j ≤ mk ∧ g' = mk - j ∧ jv = .int .i64 j ∧ av = .int .i64 ((0 :: sm 0 (L.take mk)).getD j 0) ∧ Hid (BxI W0 wx (wrap64 (pd + ak)) va ((sm 0 (L.take mk)).take j)))
                      case atStart => exact ⟨0, .slice none 0 0, Nat.zero_le _, rfl, rfl, rfl, BxI.new W0 _⟩
                      case round =>
                        obtain ⟨j, va, hj, rfl, rfl, rfl, HX⟩ := hrel
                        have r5 := (HX.out.old.cell (p := ⟨gB, oB + k, none⟩) (Nat.lt_of_lt_of_le HR2c.out.1 HBB2.out.size)).trans r2
                        clear r1 r2
                        by_cases hjm : j < mk
                        · have j2 : (j : Int) < (mk : Int) := by omega
                          have jl : j < L.length := Nat.lt_of_lt_of_le hjm HLm.out
                          have jL : j < (L.take mk).length := by rw [List.length_take]; omega
                          have hsm2 := Pt.sm_on (L.take mk) j jL
                          rw [List.getElem_take] at hsm2
                          have hny : Hid ((0 :: sm 0 (L.take mk)).getD (j + 1) 0 = wrap64 ((0 :: sm 0 (L.take mk)).getD j 0 + L[j])) := hsm2.1
                          have hnx : Hid ((sm 0 (L.take mk)).take (j + 1) = (sm 0 (L.take mk)).take j ++ [wrap64 ((0 :: sm 0 (L.take mk)).getD j 0 + L[j])]) := hsm2.2
                          have hlj : ((sm 0 (L.take mk)).take j).length = j := by rw [List.length_take, sm_length]; omega
                          have hll : Hid (((sm 0 (L.take mk)).take j).length + 1 ≤ 17179869184) := by show _ ≤ _; rw [hlj]; have := HLl.out; omega
                          obtain ⟨av9, cv9, hv9⟩ := HX.out.own.form
                          rw [hlj] at hv9
                          have HLc : Hid (gL < w3.heap.size ∧ w3.cell? ⟨gL, oL + j, none⟩ = some (.int .i64 L[j])) := by
                            obtain ⟨a', c', h1, _, _, h4⟩ := HL.out.1
                            injection h1 with q1 _ _
                            obtain ⟨g', o', h5, h6, h7⟩ := h4 (by omega)
                            rw [h5] at q1
                            injection q1 with q2
                            injection q2 with q3 q4 _
                            subst q3 q4
                            exact ⟨h6, h7 j jl⟩
                          have c5 : wr.cell? ⟨gL, oL + j, none⟩ = some (.int .i64 L[j]) := (HX.out.old.cell (p := ⟨gL, oL + j, none⟩) (Nat.lt_of_lt_of_le HLc.out.1 HBB2.out.size)).trans ((HBB2.out.cell (p := ⟨gL, oL + j, none⟩) HLc.out.1).trans HLc.out.2)
                          obtain ⟨x0, x1⟩ := po_box HX.out.box
                          obtain ⟨lx, hlx⟩ : ∃ lx, lx = L[j] := ⟨_, rfl⟩
                          rw [← hlx] at hny hnx c5
                          generalize (0 :: sm 0 (L.take mk)).getD j 0 = pz at *
                          generalize (sm 0 (L.take mk)).take j = LJ at *
                          clear hsm2 hlj HLc hlx
                          subst hv9
                          go_wp2_with (at_builtin; go_loud (refine wpList_appendM (F := fun _ => True) rfl _ _ rfl rfl W0.heap.size (Nat.le_trans HX.out.old.size (by simp)) (.slice av9 j cv9) (.slice (some ⟨wr.heap.size, 0, none⟩) 1 1) LJ [wrap64 (pz + lx)] rfl rfl (HX.out.own.alloc _) (one_int' _ _ rfl _) hll.out ?_; intro v8 w8 hO8 hB8 hM8; obtain ⟨hX8, hbx8⟩ := HX.out.push hO8 hB8 hM8; obtain ⟨b1, b2⟩ := po_box hbx8; have b3 : w8.frozen? ⟨W0.heap.size, 1, none⟩ = false := (by simp [World.frozen?, hbx8]); obtain ⟨a8, c8, hv8⟩ := hO8.form; obtain ⟨m8, hm8⟩ : ∃ m8, m8 = (LJ ++ [wrap64 (pz + lx)]).length := ⟨_, rfl⟩; rw [← hm8] at hv8; clear hm8 hO8 hB8 hM8 hbx8; subst hv8; have HX8 := Lib.hid hX8; clear hX8))
                          go_roundg (mk - (j + 1))
                          case rel => exact ⟨j + 1, _, by omega, rfl, by go_num, by rw [hny.out], by show BxI _ _ _ _ _; rw [hnx.out]; exact HX8.out⟩
                          case measure => omega
                        · have ej : mk = j := by omega
                          subst ej
                          have e9 : (sm 0 (L.take mk)).take mk = sm 0 (L.take mk) := List.take_of_length_le (by rw [sm_length, List.length_take]; omega)
                          have hX2 := HX.out
                          rw [e9] at hX2
                          have HX2 := Lib.hid hX2
                          obtain ⟨av9, cv9, hv9⟩ := hX2.own.form
                          obtain ⟨x0, x1⟩ := po_box hX2.box
                          obtain ⟨ml, hmlz⟩ : ∃ ml, ml = (sm 0 (L.take mk)).length := ⟨_, rfl⟩
                          rw [← hmlz] at hv9
                          clear e9 hX2 HX hmlz
                          subst hv9
                          go_wp2_with (at_builtin; go_loud (refine wpList_pushP (w := wr) rfl _ _ rfl B (Nat.le_trans (HBW.out ▸ HBB2.out.size) HX2.out.old.size) (.slice ao k co) (List.zipWith Pt.Po.mk ((sm 0 A).take k) t1) vs (wrap64 (pd + ak)) (.slice av9 ml cv9) (sm 0 (L.take mk)) rfl (HO.out.below HX2.out.old) (HX2.out.own.base (HBW.out ▸ HBB2.out.size)) rfl hlenb.out ?_; intro v8 w8 hO8 hB8; have HO8 := Lib.hid hO8; have HB8 := Lib.hid hB8; clear hO8 hB8))
                          go_roundg (n - (k + 1))
                          case rel => exact ⟨k + 1, t1 ++ [sm 0 (L.take mk)], L.drop mk, _, by omega, rfl, by go_num, by rw [hnd.out], by show _ = _; rw [List.length_append, HT.out]; rfl, HLr.out, by show _ ≤ _; rw [List.length_drop]; have := HLl.out; omega, by show _ = _; rw [hcd2.out, HBR.out, Option.map_map]; congr 1; funext y; simp, by show OwnP _ _ _ _ _; rw [← hnext.out]; exact HO8.out, by show Below _ _ _; exact (HBE.out.trans (HX2.out.old.mono (HBW.out ▸ HBB2.out.size))).trans HB8.out⟩
                          case measure => omega
              · obtain rfl : k = n := by omega
                obtain ⟨nL, hnL⟩ : ∃ nL, nL = L.length := ⟨_, rfl⟩
                have hform : ∃ aL cL, u9 = .slice aL nL cL := by
                  obtain ⟨aL, cL, h1, _⟩ := HL.out.1
                  exact ⟨aL, cL, by rw [h1, hnL]⟩
                obtain ⟨aL, cL, rfl⟩ := hform
                have hst : (sm 0 A).take k = sm 0 A := List.take_of_length_le (by rw [sm_length, ← HN.out]; exact Nat.le_refl _)
                have hO2 := HO.out
                rw [hst] at hO2
                have HO2 := Lib.hid hO2
                have hcd := HCUT.out
                rw [show bN.drop k = [] from List.drop_of_length_le (by rw [← HM.out]; exact Nat.le_refl _), Pt.cut_nil] at hcd
                obtain ⟨_, ao, co, hvo, _⟩ := hO2.opened
                obtain ⟨no, hno⟩ : ∃ no, no = (List.zipWith Pt.Po.mk (sm 0 A) t1).length := ⟨_, rfl⟩
                rw [← hno] at hvo
                clear hno hst hO2 HO HCUT
                subst hvo
                by_cases hn0 : nL = 0
                · have hL0 : L = [] := List.length_eq_zero_iff.1 (by omega)
                  rw [if_pos hL0] at hcd
                  have hcd2 : Pt.cut bN C = some t1 := by rw [hcd]; simp
                  have hck := Lib.hid (checkR_any W0 _ _ _ HO2.out.po)
                  subst hn0
                  by_cases hc : Pt.chk (-1) (List.zipWith Pt.Po.mk (sm 0 A) t1) = 0
                  · have hR : Hid (Pt.read S = (List.zipWith Pt.Po.mk (sm 0 A) t1, 0)) := by
                      show _ = _
                      rw [HRD1.out, HR2.out.2 t1 hcd2]
                      rw [if_pos hc]
                    rw [hc] at hck
                    clear hcd hcd2 hL0 hc
                    go_wp2_with (go_at_call 15; refine hck.out.mono ?_; rintro e1 w9 ⟨rfl, hb9⟩; have HB9 := Lib.hid hb9; clear hb9)
                    go_ret2
                    exact ⟨_, vs, by rw [hR.out]; rfl, by rw [hR.out]; exact (HO2.out.below HB9.out).base HBB.out, HB3.out.trans ((HBE.out.trans (HB9.out.mono (HBW.out ▸ (show w3.heap.size ≤ W0.heap.size from HBE.out.size)))).mono HBB.out)⟩
                  · have hR : Hid (Pt.read S = ([], 3)) := by
                      show _ = _
                      rw [HRD1.out, HR2.out.2 t1 hcd2]
                      rw [if_neg hc]
                    generalize Pt.chk (-1) (List.zipWith Pt.Po.mk (sm 0 A) t1) = c at *
                    have hcb : (c != 0) = true := by simpa using hc
                    clear hcd hcd2 hL0 hc
                    go_wp2_with (go_at_call 15; refine hck.out.mono ?_; rintro e1 w9 ⟨rfl, hb9⟩; have HB9 := Lib.hid hb9; clear hb9)
                    go_ret2
                    exact ⟨.slice none 0 0, [], by rw [hR.out]; rfl, by rw [hR.out]; exact OwnP.nil _ _, HB3.out.trans ((HBE.out.trans (HB9.out.mono (HBW.out ▸ (show w3.heap.size ≤ W0.heap.size from HBE.out.size)))).mono HBB.out)⟩
                · have hR : Hid (Pt.read S = ([], 3)) := by
                    rw [if_neg (fun e => hn0 (by rw [hnL, e]; rfl))] at hcd
                    show _ = _
                    rw [HRD1.out, HR2.out.1 hcd]
                  have i3 : (0 : Int) < (nL : Int) := by omega
                  have i4 : 0 < nL := by omega
                  have i5 : decide (0 < nL) = true := decide_eq_true i4
                  clear hcd hnL hn0
                  go_wp2_with fail
                  go_ret2
                  exact ⟨.slice none 0 0, [], by rw [hR.out]; rfl, by rw [hR.out]; exact OwnP.nil _ _, HB3.out.trans (HBE.out.mono HBB.out)⟩
          · have hne : ((n : Int) != (m : Int)) = true := by simpa using (fun q : (n : Int) = (m : Int) => hnm (by omega))
            have HR2 : Hid (Pt.read S = ([], 3)) := by
              show _ = _
              rw [HRD1.out]
              unfold Pt.mk
              rw [if_pos (by rw [hna.out, ← HM.out]; exact hnm)]
            clear hnm
            go_enter Try.func18, Try.ntmps18
            go_wp2_with (first
              | (go_at_call 35; refine (HCAL0.out w).mono ?_; rintro e1 w1 ⟨a1, c1, rfl, hO1, hb1⟩; have HB1 := Lib.hid hb1; have HO1 := Lib.hid hO1; clear hO1 hb1 HCAL0)
              | (go_at_call 35; refine (HCALL.out w1).mono ?_; rintro e1 w2 ⟨a2, c2, rfl, hO2, hb2⟩; have HB2 := Lib.hid (HB1.out.trans (hb2.mono HB1.out.size)); have HO2 := Lib.hid hO2; have HO12 := Lib.hid (HO1.out.below hb2); clear hO2 hb2 HCALL)
              | (go_at_call 35; refine (HCAL2.out w2).mono ?_; rintro e1 w3 ⟨a3, c3, rfl, hO3, hb3⟩; have HB3 := Lib.hid (HB2.out.trans (hb3.mono HB2.out.size)); have HO3 := Lib.hid hO3; have HO13 := Lib.hid (HO12.out.below hb3); have HO23 := Lib.hid (HO2.out.below hb3); clear hO3 hb3 HO12 HCAL2))
            go_ret2
            exact ⟨.slice none 0 0, [], by rw [HR2.out]; rfl, by rw [HR2.out]; exact OwnP.nil _ _, HB3.out⟩
      · have HR : Hid (Pt.read S = ([], Pt.er S 2)) := by show _ = _; rw [HRD.out, if_neg (by simpa using E0), if_neg (by simpa using E1), if_pos E2]
        rw [E0] at R0
        rw [E1] at R1
        have hne : ((Pt.er S 2) != 0) = true := by simpa using E2
        generalize Pt.er S 2 = x at *
        clear HRD hcap hlt E0 E1 E2
        go_enter Try.func18, Try.ntmps18
        go_wp2_with (first
          | (go_at_call 35; refine (R0.out w).mono ?_; rintro e1 w1 ⟨v1, rfl, hO1, hb1⟩; have HB1 := Lib.hid (hb1); obtain ⟨a1, c1, rfl⟩ := hO1.form; clear hO1 hb1 R0)
          | (go_at_call 35; refine (R1.out w1).mono ?_; rintro e1 w2 ⟨v2, rfl, hO2, hb2⟩; have HB2 := Lib.hid (HB1.out.trans (hb2.mono HB1.out.size)); obtain ⟨a2, c2, rfl⟩ := hO2.form; clear hO2 hb2 R1)
          | (go_at_call 35; refine (R2.out w2).mono ?_; rintro e1 w3 ⟨v3, rfl, hO3, hb3⟩; have HB3 := Lib.hid (HB2.out.trans (hb3.mono HB2.out.size)); obtain ⟨a3, c3, rfl⟩ := hO3.form; clear hO3 hb3 R2))
        go_ret2
        exact ⟨.slice none 0 0, [], by rw [HR.out]; rfl, by rw [HR.out]; exact OwnP.nil _ _, HB3.out⟩
    · have HR : Hid (Pt.read S = ([], Pt.er S 1)) := by show _ = _; rw [HRD.out, if_neg (by simpa using E0), if_pos E1]
      rw [E0] at R0
      have hne : ((Pt.er S 1) != 0) = true := by simpa using E1
      generalize Pt.er S 1 = x at *
      clear HRD hcap hlt E0 E1
      go_enter Try.func18, Try.ntmps18
      go_wp2_with (first
        | (go_at_call 35; refine (R0.out w).mono ?_; rintro e1 w1 ⟨v1, rfl, hO1, hb1⟩; have HB1 := Lib.hid (hb1); obtain ⟨a1, c1, rfl⟩ := hO1.form; clear hO1 hb1 R0)
        | (go_at_call 35; refine (R1.out w1).mono ?_; rintro e1 w2 ⟨v2, rfl, hO2, hb2⟩; have HB2 := Lib.hid (HB1.out.trans (hb2.mono HB1.out.size)); obtain ⟨a2, c2, rfl⟩ := hO2.form; clear hO2 hb2 R1))
      go_ret2
      exact ⟨.slice none 0 0, [], by rw [HR.out]; rfl, by rw [HR.out]; exact OwnP.nil _ _, HB2.out⟩
  · have HR : Hid (Pt.read S = ([], Pt.er S 0)) := by show _ = _; rw [HRD.out, if_pos E0]
    
    have hne : ((Pt.er S 0) != 0) = true := by simpa using E0
    generalize Pt.er S 0 = x at *
    clear HRD hcap hlt E0
    go_enter Try.func18, Try.ntmps18
    go_wp2_with (first
      | (go_at_call 35; refine (R0.out w).mono ?_; rintro e1 w1 ⟨v1, rfl, hO1, hb1⟩; have HB1 := Lib.hid (hb1); obtain ⟨a1, c1, rfl⟩ := hO1.form; clear hO1 hb1 R0))
    go_ret2
    exact ⟨.slice none 0 0, [], by rw [HR.out]; rfl, by rw [HR.out]; exact OwnP.nil _ _, HB1.out⟩
end Go.Proofs.Ytokdjaljeckghaa
