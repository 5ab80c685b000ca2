/-
  What the document's package packs postings as.
-/
import Derived.Test.YtokdjaljeckghaaPl
namespace Go.Proofs.Ytokdjaljeckghaa
open Go.RowKit
/-- Three lists that grow beside each other. -/
structure Thr (w : World) (B : Nat) (va vb vc : Value) (A M C : List Int) : Prop where
  oa : OwnI w B va A
  ob : OwnI w B vb M
  oc : OwnI w B vc C
  ab : ∀ g, va.ownBlock = some g → vb.ownBlock ≠ some g
  ac : ∀ g, va.ownBlock = some g → vc.ownBlock ≠ some g
  bc : ∀ g, vb.ownBlock = some g → vc.ownBlock ≠ some g
theorem Thr.pa {w w' : World} {B : Nat} {va vb vc v' : Value} {A M C A' : List Int} (h : Thr w B va vb vc A M C) (ho : OwnI w' B v' A') (hm : Moved w w' va v') : Thr w' B v' vb vc A' M C := by
  obtain ⟨p1, p2⟩ := h.ob.beside hm fun g hg q => h.ab g q hg
  obtain ⟨q1, q2⟩ := h.oc.beside hm fun g hg q => h.ac g q hg
  exact ⟨ho, p1, q1, p2, q2, h.bc⟩
theorem Thr.pb {w w' : World} {B : Nat} {va vb vc v' : Value} {A M C A' : List Int} (h : Thr w B va vb vc A M C) (ho : OwnI w' B v' A') (hm : Moved w w' vb v') : Thr w' B va v' vc A A' C := by
  obtain ⟨p1, p2⟩ := h.oa.beside hm fun g hg q => h.ab g hg q
  obtain ⟨q1, q2⟩ := h.oc.beside hm fun g hg q => h.bc g q hg
  exact ⟨p1, ho, q1, fun g hg q => p2 g q hg, h.ac, q2⟩
theorem Thr.pc {w w' : World} {B : Nat} {va vb vc v' : Value} {A M C A' : List Int} (h : Thr w B va vb vc A M C) (ho : OwnI w' B v' A') (hm : Moved w w' vc v') : Thr w' B va vb v' A M A' := by
  obtain ⟨p1, p2⟩ := h.oa.beside hm fun g hg q => h.ac g hg q
  obtain ⟨q1, q2⟩ := h.ob.beside hm fun g hg q => h.bc g hg q
  exact ⟨p1, q1, ho, h.ab, fun g hg q => p2 g q hg, fun g hg q => q2 g q hg⟩
theorem thr_nil (w : World) (B : Nat) : Thr w B (.slice none 0 0) (.slice none 0 0) (.slice none 0 0) [] [] [] :=
  ⟨OwnI.nil _ _, OwnI.nil _ _, OwnI.nil _ _, fun g hg => by (cases hg), fun g hg => by (cases hg), fun g hg => by (cases hg)⟩
theorem take_next {l : List Int} {k : Nat} (h : k < l.length) (x : Int) (hx : l[k] = x) : l.take (k + 1) = l.take k ++ [x] := by rw [List.take_succ_eq_append_getElem h, hx]
theorem dl_at {zs : List Int} {a : Int} {k : Nat} (h : k < zs.length) (h2 : k < (dl a zs).length) (hb : -9223372036854775808 ≤ zs[k] - (a :: zs).getD k 0 ∧ zs[k] - (a :: zs).getD k 0 ≤ 9223372036854775807) : (dl a zs)[k] = zs[k] - (a :: zs).getD k 0 := by
  rw [dl_get zs a k h h2, ← getD_at (a :: zs) k (by rw [List.length_cons]; omega)]
  unfold wrap64
  omega
theorem str_append (a b : List UInt8) : (⟨a.toArray⟩ : ByteArray) ++ ⟨b.toArray⟩ = ⟨(a ++ b).toArray⟩ := by
  apply ByteArray.ext
  rw [ByteArray.data_append]
  simp
set_option maxRecDepth 100000 in
set_option maxHeartbeats 8000000 in
theorem packR14_any (w : World) (F : Nat → Prop) (v : Value) (d : List Pt.Po) (h : PoS F w v d) (hn2 : (Pt.plcs d).length ≤ 1073741824) :
    Calls Try.prog 12 #[v] w fun e w' => e = .returned (.tuple #[.string ⟨(Pt.pack d).1.toArray⟩, .int .i64 (Pt.pack d).2]) ∧ Below w.heap.size w w' := by
  have hck := Lib.hid (checkR_any w F v d h)
  obtain ⟨a, cap, rfl, h1, h2, hv⟩ := h
  obtain ⟨n, hn⟩ : ∃ n, n = d.length := ⟨_, rfl⟩
  have HU := Lib.hid hv
  have HN := Lib.hid hn
  have H2 := Lib.hid hn2
  rw [← hn] at h1 hck ⊢
  clear hv hn
  by_cases hc : Pt.chk (-1) d = 0
  · have hP : Hid (Pt.pack d = (Pt.bytes d, 0)) := by show _ = _; unfold Pt.pack; rw [if_pos hc]
    rw [hc] at hck
    obtain ⟨k1, k2, k3⟩ := chk_pkd hc hn2
    have K1 := Lib.hid k1
    have K2 := Lib.hid k2
    have K3 := Lib.hid k3
    have hmem := Lib.hid (Pt.chk_mem hc)
    have hnl : n ≤ 1048576 := by rw [HN.out]; exact Pt.chk_len hc
    clear k1 k2 k3 hn2
    rw [hP.out]
    go_enter Try.func12, Try.ntmps12
    go_wp2_with (go_at_call 15; refine hck.out.mono ?_; rintro e1 w1 ⟨rfl, hb1⟩; have HB1 := Lib.hid hb1; clear hb1)
    go_loopg [5, 6, 7, 8] n (fun g va vb vc iv wx => ∃ k : Nat, k ≤ n ∧ g = n - k ∧ iv = .int .i64 k ∧ Thr wx w.heap.size va vb vc ((Pt.docs d).take k) ((cntsI d).take k) (Pt.plcs (d.take k)) ∧ Below w.heap.size w wx)
    case atStart => exact ⟨0, Nat.zero_le _, rfl, rfl, thr_nil _ _, HB1.out⟩
    case round =>
      clear HB1 hck
      obtain ⟨k, hk, rfl, rfl, hT, hbel⟩ := hrel
      have HT := Lib.hid hT
      have HBE := Lib.hid hbel
      clear hT hbel
      by_cases hkn : k < n
      · have i2 : (k : Int) < (n : Int) := by omega
        have kx : k < d.length := by rw [← HN.out]; exact hkn
        obtain ⟨g, o, rfl, hg, _, hcu⟩ := HU.out (by omega)
        obtain ⟨a1, vat, a2, a3⟩ := hcu k kx
        have hme := hmem.out d[k] (List.getElem_mem kx)
        have kd : k < (Pt.docs d).length := by unfold Pt.docs; rw [dl_length, List.length_map]; exact kx
        have kc : k < (cntsI d).length := by unfold cntsI Pt.cnts; rw [List.length_map, List.length_map]; exact kx
        have hprev : Hid (∃ y : Int, (0 :: d.map Pt.Po.doc).getD k 0 = y ∧ 0 ≤ y ∧ y < 1048576 ∧ (k = 0 → y = 0) ∧ (∀ j, k = j + 1 → w.cell? ⟨g, o + j * 2, none⟩ = some (.int .i64 y))) := by
          cases k with
          | zero => exact ⟨0, rfl, by omega, by omega, fun _ => rfl, fun j e => by omega⟩
          | succ j =>
            have jx : j < d.length := by omega
            have hj := hmem.out d[j] (List.getElem_mem jx)
            refine ⟨d[j].doc, ?_, hj.1, hj.2.1, fun e => by omega, fun j' e => ?_⟩
            · show (d.map Pt.Po.doc).getD j 0 = _
              rw [getD_at _ j (by rw [List.length_map]; exact jx), List.getElem_map]
            · obtain rfl : j' = j := by omega
              exact (hcu j' jx).1
        obtain ⟨y, hy, y1, y2, y3, y4⟩ := hprev.out
        have hdk : Hid ((Pt.docs d).take (k + 1) = (Pt.docs d).take k ++ [d[k].doc - y]) := by
          refine take_next kd _ ?_
          have e := dl_at (zs := d.map Pt.Po.doc) (a := 0) (k := k) (by rw [List.length_map]; exact kx) kd (by rw [List.getElem_map, hy]; omega)
          rw [List.getElem_map, hy] at e
          exact e
        have hckk : Hid ((cntsI d).take (k + 1) = (cntsI d).take k ++ [(d[k].ats.length : Int)]) := by
          refine take_next kc _ ?_
          simp only [cntsI, Pt.cnts, List.getElem_map]
          rfl
        have hpk : Hid (Pt.plcs (d.take (k + 1)) = Pt.plcs (d.take k) ++ dl 0 d[k].ats) := by show _ = _; rw [List.take_succ_eq_append_getElem kx, plcs_snoc]
        have hats := Lib.hid (Pt.chkA_mem hme.2.2.2)
        have hal := Pt.chkA_len hme.2.2.2
        have hLs : Hid (((Pt.docs d).take k).length + 1 ≤ 17179869184 ∧ ((cntsI d).take k).length + 1 ≤ 17179869184 ∧ (Pt.plcs (d.take k)).length + 4097 ≤ 17179869184) := by
          have e1 := plcs_take_le d k
          have e2 := H2.out
          rw [List.length_take, List.length_take]
          exact ⟨by omega, by omega, by omega⟩
        obtain ⟨q1, q2, _, _⟩ := hme
        clear hprev hcu hy
        generalize d[k].ats = l at *
        generalize d[k].doc = x at *
        obtain ⟨ab, cab, rfl, b1, b2, hcl⟩ := a3
        obtain ⟨m, hm⟩ : ∃ m, m = l.length := ⟨_, rfl⟩
        have HM := Lib.hid hm
        have HC := Lib.hid hcl
        rw [← hm] at b1 a2 hal hckk
        have A1 := Lib.hid a1
        have A2 := Lib.hid a2
        have Y4 := Lib.hid y4
        have c1 := (HBE.out.cell (p := ⟨g, o + k * 2, none⟩) hg).trans a1
        have c2 := (HBE.out.cell (p := ⟨g, o + k * 2 + 1, none⟩) hg).trans a2
        generalize (Pt.docs d).take k = LA at *
        generalize (cntsI d).take k = LB at *
        generalize Pt.plcs (d.take k) = LC at *
        clear hcl hm a1 a2 y4
        obtain ⟨f5a, f5c, hf5⟩ := HT.out.oa.form
        obtain ⟨f6a, f6c, hf6⟩ := HT.out.ob.form
        obtain ⟨f7a, f7c, hf7⟩ := HT.out.oc.form
        obtain ⟨n5, hn5⟩ : ∃ n5, n5 = LA.length := ⟨_, rfl⟩
        obtain ⟨n6, hn6⟩ : ∃ n6, n6 = LB.length := ⟨_, rfl⟩
        obtain ⟨n7, hn7⟩ : ∃ n7, n7 = LC.length := ⟨_, rfl⟩
        rw [← hn5] at hf5
        rw [← hn6] at hf6
        rw [← hn7] at hf7
        clear hn5 hn6 hn7
        subst hf5 hf6 hf7
        by_cases k0 : 0 < k
        · obtain ⟨j0, hj0⟩ : ∃ j, k = j + 1 := ⟨k - 1, by omega⟩
          have c3 := (HBE.out.cell (p := ⟨g, o + j0 * 2, none⟩) hg).trans (Y4.out j0 hj0)
          have i4 : (0 : Int) < (k : Int) := by omega
          have i5 : (k : Int) - 1 = (j0 : Int) := by omega
          have i6 : j0 < n := by omega
          have i7 : IntKind.i64.wrap (j0 : Int) = (j0 : Int) := IntWalk.i64_in _ (by omega)
          clear hj0
          go_wp2_with (first
            | (at_builtin; refine wpList_appendM (F := fun _ => True) rfl _ _ rfl rfl w.heap.size (Nat.le_trans HBE.out.size (by simp)) (.slice f5a n5 f5c) (.slice (some ⟨wr.heap.size, 0, none⟩) 1 1) LA [x - y] rfl rfl (HT.out.oa.alloc _) (one_int' _ _ rfl _) hLs.out.1 ?_; intro v5 w5 hO5 hB5 hM5; obtain ⟨a5, c5, hv5⟩ := hO5.form; obtain ⟨m5, hm5⟩ : ∃ m5, m5 = (LA ++ [x - y]).length := ⟨_, rfl⟩; rw [← hm5] at hv5; clear hm5; subst hv5; have T3 := Lib.hid (HT.out.pa hO5 hM5.pre); have B3 := Lib.hid ((HBE.out.alloc HBE.out.size _).trans hB5); have d2 := (B3.out.cell (p := ⟨g, o + k * 2 + 1, none⟩) hg).trans A2.out; clear hO5 hB5 hM5 HT)
            | (at_builtin; refine wpList_appendM (F := fun _ => True) rfl _ _ rfl rfl w.heap.size (Nat.le_trans B3.out.size (by simp)) (.slice f6a n6 f6c) (.slice (some ⟨w5.heap.size, 0, none⟩) 1 1) LB [(m : Int)] rfl rfl (T3.out.ob.alloc _) (one_int' _ _ rfl _) hLs.out.2.1 ?_; intro v6 w6 hO6 hB6 hM6; obtain ⟨a6, c6, hv6⟩ := hO6.form; obtain ⟨m6, hm6⟩ : ∃ m6, m6 = (LB ++ [(m : Int)]).length := ⟨_, rfl⟩; rw [← hm6] at hv6; clear hm6; subst hv6; have T4 := Lib.hid (T3.out.pb hO6 hM6.pre); have B4 := Lib.hid ((B3.out.alloc B3.out.size _).trans hB6); clear hO6 hB6 hM6 T3 d2))
          go_loopg [7, 10, 11] m (fun g' vc av jv wx => ∃ j : Nat, j ≤ m ∧ g' = m - j ∧ jv = .int .i64 j ∧ av = .int .i64 ((0 :: l).getD j 0) ∧ Thr wx w.heap.size (.slice a5 m5 c5) (.slice a6 m6 c6) vc (LA ++ [x - y]) (LB ++ [(m : Int)]) (LC ++ (dl 0 l).take j) ∧ Below w.heap.size w wx)
          case atStart => exact ⟨0, Nat.zero_le _, rfl, rfl, rfl, by rw [List.take_zero, List.append_nil]; exact T4.out, B4.out⟩
          case round =>
            clear T4 B4 c3 i4 i5 i6 i7 c1 c2
            obtain ⟨j, hj, rfl, rfl, rfl, hT, hbel⟩ := hrel
            have HT := Lib.hid hT
            have HB := Lib.hid hbel
            have e2 := (hbel.cell (p := ⟨g, o + k * 2 + 1, none⟩) hg).trans A2.out
            clear hT hbel
            by_cases hjm : j < m
            · have j2 : (j : Int) < (m : Int) := by omega
              have jx : j < l.length := by rw [← HM.out]; exact hjm
              have jd : j < (dl 0 l).length := by rw [dl_length]; exact jx
              obtain ⟨g2, o2, rfl, hg2, _, hcl⟩ := HC.out (by omega)
              have e5 := (HB.out.cell (p := ⟨g2, o2 + j, none⟩) hg2).trans (hcl j jx)
              have E5 := Lib.hid (hcl j jx)
              have hb1 := hats.out l[j] (List.getElem_mem jx)
              have hz : 0 ≤ (0 :: l).getD j 0 ∧ (0 :: l).getD j 0 < 4096 := by
                cases j with
                | zero => show 0 ≤ (0 : Int) ∧ (0 : Int) < 4096; omega
                | succ j =>
                  have := hats.out l[j] (List.getElem_mem (by omega))
                  show 0 ≤ l.getD j 0 ∧ l.getD j 0 < 4096
                  rw [getD_at _ j (by omega)]
                  exact this
              have hnx : Hid ((dl 0 l).take (j + 1) = (dl 0 l).take j ++ [l[j] - (0 :: l).getD j 0]) := take_next jd _ (dl_at jx jd (by omega))
              have hny : Hid ((0 :: l).getD (j + 1) 0 = l[j]) := getD_at _ _ jx
              have hll : Hid ((LC ++ (dl 0 l).take j).length + 1 ≤ 17179869184) := by
                have := hLs.out.2.2
                show (LC ++ (dl 0 l).take j).length + 1 ≤ _
                rw [List.length_append, List.length_take, dl_length, ← HM.out]
                omega
              obtain ⟨aC, cC, hvC⟩ := HT.out.oc.form
              obtain ⟨mC, hmC⟩ : ∃ mC, mC = (LC ++ (dl 0 l).take j).length := ⟨_, rfl⟩
              rw [← hmC] at hvC
              clear hmC hcl
              subst hvC
              obtain ⟨z1, z2⟩ := hz
              generalize (0 :: l).getD j 0 = pz at *
              generalize l[j] = lx at *
              generalize (dl 0 l).take j = LD at *
              go_wp2_with (at_builtin; refine wpList_appendM (F := fun _ => True) rfl _ _ rfl rfl w.heap.size (Nat.le_trans HB.out.size (by simp)) (.slice aC mC cC) (.slice (some ⟨wr.heap.size, 0, none⟩) 1 1) (LC ++ LD) [lx - pz] rfl rfl (HT.out.oc.alloc _) (one_int' _ _ rfl _) hll.out ?_; intro v8 w8 hO8 hB8 hM8; obtain ⟨a8, c8, hv8⟩ := hO8.form; obtain ⟨m8, hm8⟩ : ∃ m8, m8 = (LC ++ LD ++ [lx - pz]).length := ⟨_, rfl⟩; rw [← hm8] at hv8; clear hm8; subst hv8; have T8 := Lib.hid (HT.out.pc hO8 hM8.pre); have B8 := Lib.hid ((HB.out.alloc HB.out.size _).trans hB8); have s2 := (B8.out.cell (p := ⟨g, o + k * 2 + 1, none⟩) hg).trans A2.out; have s5 := (B8.out.cell (p := ⟨g2, o2 + j, none⟩) hg2).trans E5.out; clear hO8 hB8 hM8 HT)
              go_roundg (m - (j + 1))
              case rel => exact ⟨j + 1, by omega, rfl, by go_num, by rw [hny.out], by rw [hnx.out, ← List.append_assoc]; exact T8.out, B8.out⟩
              case measure => omega
            · obtain rfl : j = m := by omega
              have e9 : (dl 0 l).take j = dl 0 l := List.take_of_length_le (by rw [dl_length, ← HM.out]; exact Nat.le_refl _)
              have hT2 := HT.out
              rw [e9, ← hpk.out, ← hckk.out, ← hdk.out] at hT2
              have HT2 := Lib.hid hT2
              clear hT2 HT e9
              go_wp2_with fail
              go_roundg (n - (k + 1))
              case rel => exact ⟨k + 1, by omega, rfl, by go_num, HT2.out, HB.out⟩
              case measure => omega
        · have i4 : ¬ (0 : Int) < (k : Int) := by omega
          obtain rfl : y = 0 := y3 (by omega)
          go_wp2_with (first
            | (at_builtin; refine wpList_appendM (F := fun _ => True) rfl _ _ rfl rfl w.heap.size (Nat.le_trans HBE.out.size (by simp)) (.slice f5a n5 f5c) (.slice (some ⟨wr.heap.size, 0, none⟩) 1 1) LA [x] rfl rfl (HT.out.oa.alloc _) (one_int' _ _ rfl _) hLs.out.1 ?_; intro v5 w5 hO5 hB5 hM5; obtain ⟨a5, c5, hv5⟩ := hO5.form; obtain ⟨m5, hm5⟩ : ∃ m5, m5 = (LA ++ [x]).length := ⟨_, rfl⟩; rw [← hm5] at hv5; clear hm5; subst hv5; have T3 := Lib.hid (HT.out.pa hO5 hM5.pre); have B3 := Lib.hid ((HBE.out.alloc HBE.out.size _).trans hB5); have d2 := (B3.out.cell (p := ⟨g, o + k * 2 + 1, none⟩) hg).trans A2.out; clear hO5 hB5 hM5 HT)
            | (at_builtin; refine wpList_appendM (F := fun _ => True) rfl _ _ rfl rfl w.heap.size (Nat.le_trans B3.out.size (by simp)) (.slice f6a n6 f6c) (.slice (some ⟨w5.heap.size, 0, none⟩) 1 1) LB [(m : Int)] rfl rfl (T3.out.ob.alloc _) (one_int' _ _ rfl _) hLs.out.2.1 ?_; intro v6 w6 hO6 hB6 hM6; obtain ⟨a6, c6, hv6⟩ := hO6.form; obtain ⟨m6, hm6⟩ : ∃ m6, m6 = (LB ++ [(m : Int)]).length := ⟨_, rfl⟩; rw [← hm6] at hv6; clear hm6; subst hv6; have T4 := Lib.hid (T3.out.pb hO6 hM6.pre); have B4 := Lib.hid ((B3.out.alloc B3.out.size _).trans hB6); clear hO6 hB6 hM6 T3 d2))
          go_loopg [7, 10, 11] m (fun g' vc av jv wx => ∃ j : Nat, j ≤ m ∧ g' = m - j ∧ jv = .int .i64 j ∧ av = .int .i64 ((0 :: l).getD j 0) ∧ Thr wx w.heap.size (.slice a5 m5 c5) (.slice a6 m6 c6) vc (LA ++ [x]) (LB ++ [(m : Int)]) (LC ++ (dl 0 l).take j) ∧ Below w.heap.size w wx)
          case atStart => exact ⟨0, Nat.zero_le _, rfl, rfl, rfl, by rw [List.take_zero, List.append_nil]; exact T4.out, B4.out⟩
          case round =>
            clear T4 B4 i4 c1 c2
            obtain ⟨j, hj, rfl, rfl, rfl, hT, hbel⟩ := hrel
            have HT := Lib.hid hT
            have HB := Lib.hid hbel
            have e2 := (hbel.cell (p := ⟨g, o + k * 2 + 1, none⟩) hg).trans A2.out
            clear hT hbel
            by_cases hjm : j < m
            · have j2 : (j : Int) < (m : Int) := by omega
              have jx : j < l.length := by rw [← HM.out]; exact hjm
              have jd : j < (dl 0 l).length := by rw [dl_length]; exact jx
              obtain ⟨g2, o2, rfl, hg2, _, hcl⟩ := HC.out (by omega)
              have e5 := (HB.out.cell (p := ⟨g2, o2 + j, none⟩) hg2).trans (hcl j jx)
              have E5 := Lib.hid (hcl j jx)
              have hb1 := hats.out l[j] (List.getElem_mem jx)
              have hz : 0 ≤ (0 :: l).getD j 0 ∧ (0 :: l).getD j 0 < 4096 := by
                cases j with
                | zero => show 0 ≤ (0 : Int) ∧ (0 : Int) < 4096; omega
                | succ j =>
                  have := hats.out l[j] (List.getElem_mem (by omega))
                  show 0 ≤ l.getD j 0 ∧ l.getD j 0 < 4096
                  rw [getD_at _ j (by omega)]
                  exact this
              have hnx : Hid ((dl 0 l).take (j + 1) = (dl 0 l).take j ++ [l[j] - (0 :: l).getD j 0]) := take_next jd _ (dl_at jx jd (by omega))
              have hny : Hid ((0 :: l).getD (j + 1) 0 = l[j]) := getD_at _ _ jx
              have hll : Hid ((LC ++ (dl 0 l).take j).length + 1 ≤ 17179869184) := by
                have := hLs.out.2.2
                show (LC ++ (dl 0 l).take j).length + 1 ≤ _
                rw [List.length_append, List.length_take, dl_length, ← HM.out]
                omega
              obtain ⟨aC, cC, hvC⟩ := HT.out.oc.form
              obtain ⟨mC, hmC⟩ : ∃ mC, mC = (LC ++ (dl 0 l).take j).length := ⟨_, rfl⟩
              rw [← hmC] at hvC
              clear hmC hcl
              subst hvC
              obtain ⟨z1, z2⟩ := hz
              generalize (0 :: l).getD j 0 = pz at *
              generalize l[j] = lx at *
              generalize (dl 0 l).take j = LD at *
              go_wp2_with (at_builtin; refine wpList_appendM (F := fun _ => True) rfl _ _ rfl rfl w.heap.size (Nat.le_trans HB.out.size (by simp)) (.slice aC mC cC) (.slice (some ⟨wr.heap.size, 0, none⟩) 1 1) (LC ++ LD) [lx - pz] rfl rfl (HT.out.oc.alloc _) (one_int' _ _ rfl _) hll.out ?_; intro v8 w8 hO8 hB8 hM8; obtain ⟨a8, c8, hv8⟩ := hO8.form; obtain ⟨m8, hm8⟩ : ∃ m8, m8 = (LC ++ LD ++ [lx - pz]).length := ⟨_, rfl⟩; rw [← hm8] at hv8; clear hm8; subst hv8; have T8 := Lib.hid (HT.out.pc hO8 hM8.pre); have B8 := Lib.hid ((HB.out.alloc HB.out.size _).trans hB8); have s2 := (B8.out.cell (p := ⟨g, o + k * 2 + 1, none⟩) hg).trans A2.out; have s5 := (B8.out.cell (p := ⟨g2, o2 + j, none⟩) hg2).trans E5.out; clear hO8 hB8 hM8 HT)
              go_roundg (m - (j + 1))
              case rel => exact ⟨j + 1, by omega, rfl, by go_num, by rw [hny.out], by rw [hnx.out, ← List.append_assoc]; exact T8.out, B8.out⟩
              case measure => omega
            · obtain rfl : j = m := by omega
              have e9 : (dl 0 l).take j = dl 0 l := List.take_of_length_le (by rw [dl_length, ← HM.out]; exact Nat.le_refl _)
              have hT2 := HT.out
              rw [e9, ← hpk.out, ← hckk.out, show x = x - 0 by omega, ← hdk.out] at hT2
              have HT2 := Lib.hid hT2
              clear hT2 HT e9
              go_wp2_with fail
              go_roundg (n - (k + 1))
              case rel => exact ⟨k + 1, by omega, rfl, by go_num, HT2.out, HB.out⟩
              case measure => omega
      · obtain rfl : k = n := by omega
        have e1 : (Pt.docs d).take k = Pt.docs d := List.take_of_length_le (by unfold Pt.docs; rw [dl_length, List.length_map, ← HN.out]; exact Nat.le_refl _)
        have e2 : (cntsI d).take k = cntsI d := List.take_of_length_le (by unfold cntsI Pt.cnts; rw [List.length_map, List.length_map, ← HN.out]; exact Nat.le_refl _)
        have e3 : d.take k = d := List.take_of_length_le (by rw [← HN.out]; exact Nat.le_refl _)
        have hT2 := HT.out
        rw [e1, e2, e3] at hT2
        have HT2 := Lib.hid hT2
        have hby : Hid ((⟨(Pt.bytes d).toArray⟩ : ByteArray) = ⟨(Bp.packB ((Pt.docs d).map Int.toNat)).toArray⟩ ++ ⟨(Bp.packB (Pt.cnts d)).toArray⟩ ++ ⟨(Bp.packB ((Pt.plcs d).map Int.toNat)).toArray⟩) := by
          show _ = _
          rw [str_append, str_append, List.append_assoc]
          rfl
        have p1 := Lib.hid (packR_one wr u5 (Pt.docs d) _ K1.out HT2.out.oa.intF.ints)
        have p2 := Lib.hid (fun (wx : World) (hb : Below wr.heap.size wr wx) => packR_one wx u6 (cntsI d) _ K2.out (HT2.out.ob.intF.ints.below hb (Nat.le_refl _)))
        have p3 := Lib.hid (fun (wx : World) (hb : Below wr.heap.size wr wx) => packR_one wx u7 (Pt.plcs d) _ K3.out (HT2.out.oc.intF.ints.below hb (Nat.le_refl _)))
        have z1 : (⟨(Bp.packB ((Pt.docs d).map Int.toNat)).toArray⟩ : ByteArray).size ≤ 34359738368 := by have e1 := K1.out.len; have e2 := K1.out.few; show (Bp.packB ((Pt.docs d).map Int.toNat)).toArray.size ≤ _; rw [List.size_toArray]; omega
        have z2 : (⟨(Bp.packB (Pt.cnts d)).toArray⟩ : ByteArray).size ≤ 34359738368 := by have e1 := K2.out.len; have e2 := K2.out.few; show (Bp.packB (Pt.cnts d)).toArray.size ≤ _; rw [List.size_toArray]; omega
        have z3 : (⟨(Bp.packB ((Pt.plcs d).map Int.toNat)).toArray⟩ : ByteArray).size ≤ 34359738368 := by have e1 := K3.out.len; have e2 := K3.out.few; show (Bp.packB ((Pt.plcs d).map Int.toNat)).toArray.size ≤ _; rw [List.size_toArray]; omega
        clear hT2 e1 e2 e3 HT hc hP
        generalize (⟨(Bp.packB ((Pt.docs d).map Int.toNat)).toArray⟩ : ByteArray) = X at *
        generalize (⟨(Bp.packB (Pt.cnts d)).toArray⟩ : ByteArray) = Y at *
        generalize (⟨(Bp.packB ((Pt.plcs d).map Int.toNat)).toArray⟩ : ByteArray) = Z at *
        have y1 : ¬ 9223372036854775807 < X.size + Y.size := by omega
        have y2 : ¬ 9223372036854775807 < (X ++ Y).size + Z.size := by rw [ByteArray.size_append]; omega
        obtain ⟨a5, c5, f5⟩ := HT2.out.oa.form
        obtain ⟨a6, c6, f6⟩ := HT2.out.ob.form
        obtain ⟨a7, c7, f7⟩ := HT2.out.oc.form
        obtain ⟨n5, g5⟩ : ∃ m, m = (Pt.docs d).length := ⟨_, rfl⟩
        obtain ⟨n6, g6⟩ : ∃ m, m = (cntsI d).length := ⟨_, rfl⟩
        obtain ⟨n7, g7⟩ : ∃ m, m = (Pt.plcs d).length := ⟨_, rfl⟩
        rw [← g5] at f5
        rw [← g6] at f6
        rw [← g7] at f7
        clear g5 g6 g7 z1 z2 z3
        subst f5 f6 f7
        go_wp2_with (first
          | (go_at_call 29; refine p1.out.mono ?_; rintro e1 w3 ⟨rfl, hb3⟩; have HB3 := Lib.hid hb3; clear hb3 p1)
          | (go_at_call 29; refine (p2.out _ HB3.out).mono ?_; rintro e1 w4 ⟨rfl, hb4⟩; have HB4 := Lib.hid (HB3.out.trans (hb4.mono HB3.out.size)); clear hb4 p2)
          | (go_at_call 29; refine (p3.out _ HB4.out).mono ?_; rintro e1 w5 ⟨rfl, hb5⟩; have HB5 := Lib.hid (HB4.out.trans (hb5.mono HB4.out.size)); clear hb5 p3))
        go_ret2
        exact ⟨by rw [hby.out]; rfl, HBE.out.trans (HB5.out.mono HBE.out.size)⟩
  · have hP : Hid (Pt.pack d = ([], Pt.chk (-1) d)) := by show _ = _; unfold Pt.pack; rw [if_neg hc]
    rw [hP.out]
    obtain ⟨c, hcc⟩ : ∃ c, c = Pt.chk (-1) d := ⟨_, rfl⟩
    rw [← hcc] at hck hc ⊢
    clear hcc hP
    have hne : ((c : Int) != 0) = true := by simpa using hc
    clear hc
    go_enter Try.func12, Try.ntmps12
    go_wp2_with (go_at_call 15; refine hck.out.mono ?_; rintro e1 w1 ⟨rfl, hb1⟩; have HB1 := Lib.hid hb1; clear hb1)
    go_ret2
    exact ⟨rfl, HB1.out⟩
end Go.Proofs.Ytokdjaljeckghaa
