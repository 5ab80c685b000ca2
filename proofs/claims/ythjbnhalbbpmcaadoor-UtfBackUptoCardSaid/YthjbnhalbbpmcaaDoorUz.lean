/-
  Characters that were written are read back, also one behind the other; bytes that are read are just what they are written in: the walk of the statement.
-/
import Derived.Test.YthjbnhalbbpmcaaDoorUa
import Derived.Test.YthjbnhalbbpmcaaDoorUg
import Derived.Test.YthjbnhalbbpmcaaDoorMn
namespace Go.Proofs.YthjbnhalbbpmcaaDoor
open Go.RowKit

/-- 'append(v, u...)' of numbers that lie elsewhere, or of none, at an operation that is wanted. -/
theorem wpList_appV {ops : Array Oper} {rest : List Oper} {o : Oper} {a : Act} {Q : Exit → Act → World → Prop} {w : World} (hwant : Region.wanted o (yielded ops a.tmps) = true) (s x : Operand)
    (ho : o.op = .call { callee := .builtin .append, args := #[s, x], argTypes := #[22, 22] })
    (B : Nat) (hB : B ≤ w.heap.size) (v : Value) (l r : List Int) (hs : a.eval s = v) (h : OwnI w B v l) (u : Value) (hx : a.eval x = u)
    (hr : IntS w u r) (hn : u = .slice none 0 0 ∨ ∃ x l c, u = .slice (some x) l c) (hb : l.length + r.length ≤ 17592186044416)
    (hk : ∀ v' w', OwnI w' B v' (l ++ r) → Below B w w' → wpList Tryd.prog ops Q rest (a.put o.dst v') w') :
    wpList Tryd.prog ops Q (o :: rest) a w := by
  obtain ⟨ii, hi, hz0, hz1, hz2⟩ := info_parts Tryd.infoI
  have hown : w.ownsRow B 3 1 v l.length (intsV l) := h
  have key : o.wp Tryd.prog a w (wpList Tryd.prog ops Q rest) Q := by
    rcases hn with h' | ⟨x', l', c', h'⟩
    · subst h'
      have hr0 : r = [] := by
        obtain ⟨a', cap', hv, _⟩ := hr
        simp only [Value.slice.injEq] at hv
        exact List.length_eq_zero_iff.1 hv.2.1.symm
      subst hr0
      have hrun := run_append_owned_none (P := Tryd.prog) (w := w) B 22 o.type 3 ii 1 Tryd.underlying22 hi v l.length (intsV l) hown
      unfold Oper.wp
      simp [execOp, ho, resolve, invoke, builtin, hs, hx, hrun, Result.andThen]
      exact hk v w (by rw [List.append_nil]; exact h) (Below.refl B w)
    · subst h'
      obtain ⟨a', cap', hv, _⟩ := id hr
      simp only [Value.slice.injEq] at hv
      obtain ⟨_, rfl, rfl⟩ := hv
      refine wp_append_own w s x 22 ho B 3 ii (.int .i64 0) 1 8 Tryd.underlying22 hi hz0 hz1 hz2 rfl (by decide) _ _ _ hs hown x' r.length _ (intsV r) hx (by rw [intsV_length, Nat.mul_one]) ?_ ?_ (by unfold maxLen; omega) (by omega) hB ?_
      · intro j u hj
        have hjr : j < r.length := by
          have := (List.getElem?_eq_some_iff.1 hj).1
          simpa [intsV] using this
        obtain ⟨a', cap', hv, _, _, hc⟩ := hr
        obtain ⟨g, o', ha, _, hcl⟩ := hc (by omega)
        simp only [Value.slice.injEq] at hv
        obtain ⟨hv1, _, _⟩ := hv
        rw [← hv1] at ha
        obtain rfl := Option.some.inj ha
        rw [Addr.add_lit, hcl j hjr]
        simp [intsV, hjr] at hj
        rw [← hj]
      · intro u hu
        obtain ⟨x, _, rfl⟩ := List.mem_map.1 hu
        rfl
      · intro v' w' h1 h2 _
        obtain ⟨h3, h4⟩ := ownI_pushAll hB h (Below.refl B w) h1 h2
        exact hk v' w' h3 h4
  unfold wpList
  rw [if_pos hwant]
  exact .inl key

set_option maxRecDepth 100000 in
set_option maxHeartbeats 4000000 in
theorem back_walk (w : World) (u v : Value) (xs ys : List Int) (s : ByteArray) (hT : Tabs w) (hu : IntS w u xs) (hv : IntS w v ys) (hnu : u = .slice none 0 0 ∨ ∃ x l c, u = .slice (some x) l c) (hnv : v = .slice none 0 0 ∨ ∃ x l c, v = .slice (some x) l c)
    (hx : xs.length ≤ 1048576) (hy : ys.length ≤ 1048576) (hs : s.size ≤ 1048576) :
    Calls Tryd.prog 6 #[u, v, .string s] w fun e w' => e = .returned (.bool true) ∧ Below w.heap.size w w' := by
  obtain ⟨X, hX⟩ : ∃ X : ByteArray, X = ⟨(Ut.encS xs).toArray⟩ := ⟨_, rfl⟩
  obtain ⟨Y, hY⟩ : ∃ Y : ByteArray, Y = ⟨(Ut.encS ys).toArray⟩ := ⟨_, rfl⟩
  have H1 : Hid (Calls Tryd.prog 9 #[u] w fun e w' => e = .returned (.tuple #[.string X, .int .i64 (Ut.encE xs)]) ∧ Below w.heap.size w w') := by rw [hX]; exact encode_any w u xs hu (by omega)
  have H2 : Hid (∀ W, Below w.heap.size w W → Calls Tryd.prog 9 #[v] W fun e w' => e = .returned (.tuple #[.string Y, .int .i64 (Ut.encE ys)]) ∧ Below w.heap.size w w') := fun W hb => (encode_any W v ys (hv.below hb (Nat.le_refl _)) (by omega)).mono fun e w' ⟨g1, g2⟩ => ⟨by rw [hY]; exact g1, hb.trans (g2.mono hb.size)⟩
  have h0 : Hid (∀ W, Below w.heap.size w W → Calls Tryd.prog 11 #[] W fun e' w' => e' = .returned (.bool true) ∧ Below w.heap.size w w') := fun W hb => (awake_any W (hT.below hb)).mono fun e' w' ⟨h1, h2⟩ => ⟨h1, hb.trans (h2.mono hb.size)⟩
  have lx : (Ut.encS xs).length ≤ 4 * xs.length := by
    unfold Ut.encS
    split
    · exact (Ut.enc_length xs).2
    · simp
  have ly : (Ut.encS ys).length ≤ 4 * ys.length := by
    unfold Ut.encS
    split
    · exact (Ut.enc_length ys).2
    · simp
  have zx : X.size ≤ 4 * xs.length := by rw [hX, mk_size]; exact lx
  have zy : Y.size ≤ 4 * ys.length := by rw [hY, mk_size]; exact ly
  have hz : ¬ 9223372036854775807 < X.size + Y.size := by omega
  have H3 : Hid (Ut.allW xs = true → Ut.allW ys = true → ∀ W, Below w.heap.size w W → Calls Tryd.prog 13 #[.string (X ++ Y)] W fun e w' => ∃ v, e = .returned (.tuple #[v, .int .i64 0]) ∧ OwnI w' W.heap.size v (xs ++ ys) ∧ Below w.heap.size w w') := by
    intro ha hb W hbw
    refine (decode_any W (X ++ Y) (hT.below hbw) (by rw [ByteArray.size_append]; omega)).mono ?_
    rintro e w' ⟨v', h1, h2, h3⟩
    have hd : (X ++ Y).data.toList = Ut.enc (xs ++ ys) := by
      rw [hX, hY, mk_append, Ut.encS_yes ha, Ut.encS_yes hb, Ut.enc_append]
    have hall : Ut.allW (xs ++ ys) = true := by rw [Ut.allW_append, ha, hb]; rfl
    obtain ⟨d1, d2⟩ := Ut.dec_enc _ hall
    rw [hd, Ut.decE_yes d1] at h1
    rw [hd, Ut.decS_yes d1, d2] at h2
    exact ⟨v', h1, h2, hbw.trans (h3.mono hbw.size)⟩
  have H4 : Hid (∀ W, Below w.heap.size w W → Calls Tryd.prog 13 #[.string s] W fun e w' => ∃ v, e = .returned (.tuple #[v, .int .i64 (Ut.decE s.data.toList)]) ∧ OwnI w' W.heap.size v (Ut.decS s.data.toList) ∧ Below w.heap.size w w') := fun W hbw =>
    (decode_any W s (hT.below hbw) (by omega)).mono fun e w' ⟨v', h1, h2, h3⟩ => ⟨v', h1, h2, hbw.trans (h3.mono hbw.size)⟩
  have hdl := Ut.decS_length s.data.toList
  rw [show s.data.toList.length = s.size from by simp] at hdl
  have H5 : Hid (Lib.validD s.data.toList = true → ∀ (W : World) (m : Value), Below w.heap.size w W → IntS W m (Ut.decS s.data.toList) → Calls Tryd.prog 9 #[m] W fun e w' => e = .returned (.tuple #[.string s, .int .i64 0]) ∧ Below w.heap.size w w') := by
    intro hvd W m hbw hm
    refine (encode_any W m _ hm (by omega)).mono ?_
    rintro e w' ⟨h1, h2⟩
    obtain ⟨d1, d2⟩ := Ut.enc_dec _ s.data.toList (Nat.le_refl _) hvd
    rw [Ut.decS_yes hvd, Ut.encE_yes d2, Ut.encS_yes d2, d1, ← mk_of rfl] at h1
    exact ⟨h1, hbw.trans (h2.mono hbw.size)⟩
  have HU := Lib.hid hu
  have HV := Lib.hid hv
  have HNU := Lib.hid hnu
  have HNV := Lib.hid hnv
  have hfx : Ut.encE xs = 1 ∨ (Ut.encE xs = 0 ∧ Ut.allW xs = true) := by
    cases h : Ut.allW xs
    · exact .inl (Ut.encE_no h)
    · exact .inr ⟨Ut.encE_yes h, rfl⟩
  have hfy : Ut.encE ys = 1 ∨ (Ut.encE ys = 0 ∧ Ut.allW ys = true) := by
    cases h : Ut.allW ys
    · exact .inl (Ut.encE_no h)
    · exact .inr ⟨Ut.encE_yes h, rfl⟩
  have hfs : (Ut.decE s.data.toList = 7 ∧ Ut.decS s.data.toList = []) ∨ (Ut.decE s.data.toList = 0 ∧ Lib.validD s.data.toList = true) := by
    cases h : Lib.validD s.data.toList
    · exact .inl ⟨Ut.decE_no h, Ut.decS_no h⟩
    · exact .inr ⟨Ut.decE_yes h, rfl⟩
  clear hX hY lx ly zx zy hu hv hnu hnv hT
  generalize Ut.encE xs = E1 at *
  generalize Ut.encE ys = E2 at *
  generalize Ut.decE s.data.toList = E3 at *
  generalize Ut.decS s.data.toList = L at *
  have hseq : (s.toList == s.toList) = true := by simp
  rcases hfx with rfl | ⟨rfl, haX⟩
  · clear H3 hfy
    rcases hfs with ⟨rfl, rfl⟩ | ⟨rfl, hvs⟩
    · have _ht : True := trivial
      go_enter Tryd.func6, Tryd.ntmps6
      go_wp2_with fail
      refine H1.out.mono ?_
      rintro e w1 ⟨rfl, hb⟩
      have HB1 := Lib.hid hb
      clear hb
      go_wp2_with fail
      refine (H2.out w1 HB1.out).mono ?_
      rintro e w2 ⟨rfl, hb⟩
      have HB2 := Lib.hid hb
      clear hb
      go_wp2_with fail
      refine (h0.out w2 HB2.out).mono ?_
      rintro e w3 ⟨rfl, hb⟩
      have HBX := Lib.hid hb
      clear hb H1 H2 h0 HB1 HB2
      go_wp2_with fail
      refine (H4.out w3 HBX.out).mono ?_
      rintro e w8 ⟨m8, rfl, ho8, hb⟩
      have HB8 := Lib.hid hb
      obtain ⟨a8, c8, rfl, _⟩ := ownI_cells ho8
      clear hb ho8
      go_wp2_with fail
      go_ret
      exact ⟨rfl, HB8.out⟩
    · have _ht : True := trivial
      go_enter Tryd.func6, Tryd.ntmps6
      go_wp2_with fail
      refine H1.out.mono ?_
      rintro e w1 ⟨rfl, hb⟩
      have HB1 := Lib.hid hb
      clear hb
      go_wp2_with fail
      refine (H2.out w1 HB1.out).mono ?_
      rintro e w2 ⟨rfl, hb⟩
      have HB2 := Lib.hid hb
      clear hb
      go_wp2_with fail
      refine (h0.out w2 HB2.out).mono ?_
      rintro e w3 ⟨rfl, hb⟩
      have HBX := Lib.hid hb
      clear hb H1 H2 h0 HB1 HB2
      go_wp2_with fail
      refine (H4.out w3 HBX.out).mono ?_
      rintro e w8 ⟨m8, rfl, ho8, hb⟩
      have HB8 := Lib.hid hb
      have HI8 := Lib.hid (ho8.ints (by omega))
      obtain ⟨a8, c8, rfl, _⟩ := ownI_cells ho8
      clear hb ho8
      go_wp2_with fail
      refine (H5.out hvs w8 _ HB8.out HI8.out).mono ?_
      rintro e w9 ⟨rfl, hb⟩
      have HB9 := Lib.hid hb
      clear hb
      go_wp2_with fail
      go_ret
      exact ⟨rfl, HB9.out⟩
  · rcases hfy with rfl | ⟨rfl, haY⟩
    · clear H3
      rcases hfs with ⟨rfl, rfl⟩ | ⟨rfl, hvs⟩
      · have _ht : True := trivial
        go_enter Tryd.func6, Tryd.ntmps6
        go_wp2_with fail
        refine H1.out.mono ?_
        rintro e w1 ⟨rfl, hb⟩
        have HB1 := Lib.hid hb
        clear hb
        go_wp2_with fail
        refine (H2.out w1 HB1.out).mono ?_
        rintro e w2 ⟨rfl, hb⟩
        have HB2 := Lib.hid hb
        clear hb
        go_wp2_with fail
        refine (h0.out w2 HB2.out).mono ?_
        rintro e w3 ⟨rfl, hb⟩
        have HBX := Lib.hid hb
        clear hb H1 H2 h0 HB1 HB2
        go_wp2_with fail
        refine (H4.out w3 HBX.out).mono ?_
        rintro e w8 ⟨m8, rfl, ho8, hb⟩
        have HB8 := Lib.hid hb
        obtain ⟨a8, c8, rfl, _⟩ := ownI_cells ho8
        clear hb ho8
        go_wp2_with fail
        go_ret
        exact ⟨rfl, HB8.out⟩
      · have _ht : True := trivial
        go_enter Tryd.func6, Tryd.ntmps6
        go_wp2_with fail
        refine H1.out.mono ?_
        rintro e w1 ⟨rfl, hb⟩
        have HB1 := Lib.hid hb
        clear hb
        go_wp2_with fail
        refine (H2.out w1 HB1.out).mono ?_
        rintro e w2 ⟨rfl, hb⟩
        have HB2 := Lib.hid hb
        clear hb
        go_wp2_with fail
        refine (h0.out w2 HB2.out).mono ?_
        rintro e w3 ⟨rfl, hb⟩
        have HBX := Lib.hid hb
        clear hb H1 H2 h0 HB1 HB2
        go_wp2_with fail
        refine (H4.out w3 HBX.out).mono ?_
        rintro e w8 ⟨m8, rfl, ho8, hb⟩
        have HB8 := Lib.hid hb
        have HI8 := Lib.hid (ho8.ints (by omega))
        obtain ⟨a8, c8, rfl, _⟩ := ownI_cells ho8
        clear hb ho8
        go_wp2_with fail
        refine (H5.out hvs w8 _ HB8.out HI8.out).mono ?_
        rintro e w9 ⟨rfl, hb⟩
        have HB9 := Lib.hid hb
        clear hb
        go_wp2_with fail
        go_ret
        exact ⟨rfl, HB9.out⟩
    · have _ht : True := trivial
      rcases hfs with ⟨rfl, rfl⟩ | ⟨rfl, hvs⟩
      · have _ht : True := trivial
        go_enter Tryd.func6, Tryd.ntmps6
        go_wp2_with fail
        refine H1.out.mono ?_
        rintro e w1 ⟨rfl, hb⟩
        have HB1 := Lib.hid hb
        clear hb
        go_wp2_with fail
        refine (H2.out w1 HB1.out).mono ?_
        rintro e w2 ⟨rfl, hb⟩
        have HB2 := Lib.hid hb
        clear hb
        go_wp2_with fail
        refine (h0.out w2 HB2.out).mono ?_
        rintro e w3 ⟨rfl, hb⟩
        have HBX := Lib.hid hb
        clear hb H1 H2 h0 HB1 HB2
        go_wp2_with fail
        refine (H3.out haX haY w3 HBX.out).mono ?_
        rintro e w4 ⟨l4, rfl, ho4, hb⟩
        have HB4 := Lib.hid hb
        have hl4 : (xs ++ ys).length ≤ 140737488355328 := by rw [List.length_append]; omega
        have HI4 := Lib.hid (ho4.ints hl4)
        obtain ⟨a4, c4, rfl, _⟩ := ownI_cells ho4
        clear hb ho4 H3
        generalize hN : (xs ++ ys).length = N at HI4 hl4 ⊢
        have HN := Lib.hid hN
        clear hN
        have LB : Below w4.heap.size w4 (w4.alloc (.cells #[] 3)) := (Below.refl _ _).alloc (Nat.le_refl _) _
        have L0 : OwnI (w4.alloc (.cells #[] 3)) w4.heap.size (.slice (some ⟨w4.heap.size, 0, none⟩) 0 0) [] := World.ownsRow_lit (e := 3) (size := 1) w4 #[] 0 (Nat.le_refl _) (by unfold maxLen; omega) rfl
        have HA := Lib.hid (And.intro L0 (And.intro LB (And.intro (HU.out.below (HB4.out.trans (LB.mono HB4.out.size)) (Nat.le_refl _)) (HV.out.below (HB4.out.trans (LB.mono HB4.out.size)) (Nat.le_refl _)))))
        clear LB L0
        go_wp2_with (at_builtin; first
          | (refine wpList_appV rfl _ _ rfl w4.heap.size HO1.out.2.size (.slice a1 xs.length c1) xs ys rfl HO1.out.1 v rfl (HV.out.below (HB4.out.trans (HO1.out.2.mono HB4.out.size)) (Nat.le_refl _)) HNV.out (by omega) ?_; intro v2 w6 hown2 hb2; have HO2 : Hid (OwnI w6 w4.heap.size v2 (xs ++ ys) ∧ Below w4.heap.size w4 w6) := ⟨hown2, HO1.out.2.trans hb2⟩; clear hown2 hb2)
          | go_loud ((refine wpList_appV rfl _ _ rfl w4.heap.size (by simp) (.slice (some ⟨w4.heap.size, 0, none⟩) 0 0) [] xs rfl HA.out.1 u rfl HA.out.2.2.1 HNU.out (by simp; omega) ?_; intro v1 w5 hown1 hb1; obtain ⟨a1, c1, rfl, _⟩ := ownI_cells hown1; have HO1 : Hid (OwnI w5 w4.heap.size (.slice a1 xs.length c1) xs ∧ Below w4.heap.size w4 w5) := ⟨hown1, HA.out.2.1.trans hb1⟩; clear hown1 hb1)))
        have HNM := Lib.hid (numbers_any w6 _ _ (xs ++ ys) (xs ++ ys) (HI4.out.below HO2.out.2 (Nat.le_refl _)) (HO2.out.1.ints (by rw [HN.out]; exact hl4)) (by rw [HN.out]; omega) (by rw [HN.out]; omega))
        rw [decide_eq_true rfl] at HNM
        have HW6 : Hid (Below w.heap.size w w6) := HB4.out.trans (HO2.out.2.mono HB4.out.size)
        clear HO1 HO2 HA HI4 HB4 HBX hl4
        refine HNM.out.mono ?_
        rintro e w7 ⟨rfl, hb⟩
        have HBX : Hid (Below w.heap.size w w7) := HW6.out.trans (hb.mono HW6.out.size)
        clear hb HW6 HNM
        go_wp2_with fail
        refine (H4.out w7 HBX.out).mono ?_
        rintro e w8 ⟨m8, rfl, ho8, hb⟩
        have HB8 := Lib.hid hb
        obtain ⟨a8, c8, rfl, _⟩ := ownI_cells ho8
        clear hb ho8
        go_wp2_with fail
        go_ret
        exact ⟨rfl, HB8.out⟩
      · have _ht : True := trivial
        go_enter Tryd.func6, Tryd.ntmps6
        go_wp2_with fail
        refine H1.out.mono ?_
        rintro e w1 ⟨rfl, hb⟩
        have HB1 := Lib.hid hb
        clear hb
        go_wp2_with fail
        refine (H2.out w1 HB1.out).mono ?_
        rintro e w2 ⟨rfl, hb⟩
        have HB2 := Lib.hid hb
        clear hb
        go_wp2_with fail
        refine (h0.out w2 HB2.out).mono ?_
        rintro e w3 ⟨rfl, hb⟩
        have HBX := Lib.hid hb
        clear hb H1 H2 h0 HB1 HB2
        go_wp2_with fail
        refine (H3.out haX haY w3 HBX.out).mono ?_
        rintro e w4 ⟨l4, rfl, ho4, hb⟩
        have HB4 := Lib.hid hb
        have hl4 : (xs ++ ys).length ≤ 140737488355328 := by rw [List.length_append]; omega
        have HI4 := Lib.hid (ho4.ints hl4)
        obtain ⟨a4, c4, rfl, _⟩ := ownI_cells ho4
        clear hb ho4 H3
        generalize hN : (xs ++ ys).length = N at HI4 hl4 ⊢
        have HN := Lib.hid hN
        clear hN
        have LB : Below w4.heap.size w4 (w4.alloc (.cells #[] 3)) := (Below.refl _ _).alloc (Nat.le_refl _) _
        have L0 : OwnI (w4.alloc (.cells #[] 3)) w4.heap.size (.slice (some ⟨w4.heap.size, 0, none⟩) 0 0) [] := World.ownsRow_lit (e := 3) (size := 1) w4 #[] 0 (Nat.le_refl _) (by unfold maxLen; omega) rfl
        have HA := Lib.hid (And.intro L0 (And.intro LB (And.intro (HU.out.below (HB4.out.trans (LB.mono HB4.out.size)) (Nat.le_refl _)) (HV.out.below (HB4.out.trans (LB.mono HB4.out.size)) (Nat.le_refl _)))))
        clear LB L0
        go_wp2_with (at_builtin; first
          | (refine wpList_appV rfl _ _ rfl w4.heap.size HO1.out.2.size (.slice a1 xs.length c1) xs ys rfl HO1.out.1 v rfl (HV.out.below (HB4.out.trans (HO1.out.2.mono HB4.out.size)) (Nat.le_refl _)) HNV.out (by omega) ?_; intro v2 w6 hown2 hb2; have HO2 : Hid (OwnI w6 w4.heap.size v2 (xs ++ ys) ∧ Below w4.heap.size w4 w6) := ⟨hown2, HO1.out.2.trans hb2⟩; clear hown2 hb2)
          | go_loud ((refine wpList_appV rfl _ _ rfl w4.heap.size (by simp) (.slice (some ⟨w4.heap.size, 0, none⟩) 0 0) [] xs rfl HA.out.1 u rfl HA.out.2.2.1 HNU.out (by simp; omega) ?_; intro v1 w5 hown1 hb1; obtain ⟨a1, c1, rfl, _⟩ := ownI_cells hown1; have HO1 : Hid (OwnI w5 w4.heap.size (.slice a1 xs.length c1) xs ∧ Below w4.heap.size w4 w5) := ⟨hown1, HA.out.2.1.trans hb1⟩; clear hown1 hb1)))
        have HNM := Lib.hid (numbers_any w6 _ _ (xs ++ ys) (xs ++ ys) (HI4.out.below HO2.out.2 (Nat.le_refl _)) (HO2.out.1.ints (by rw [HN.out]; exact hl4)) (by rw [HN.out]; omega) (by rw [HN.out]; omega))
        rw [decide_eq_true rfl] at HNM
        have HW6 : Hid (Below w.heap.size w w6) := HB4.out.trans (HO2.out.2.mono HB4.out.size)
        clear HO1 HO2 HA HI4 HB4 HBX hl4
        refine HNM.out.mono ?_
        rintro e w7 ⟨rfl, hb⟩
        have HBX : Hid (Below w.heap.size w w7) := HW6.out.trans (hb.mono HW6.out.size)
        clear hb HW6 HNM
        go_wp2_with fail
        refine (H4.out w7 HBX.out).mono ?_
        rintro e w8 ⟨m8, rfl, ho8, hb⟩
        have HB8 := Lib.hid hb
        have HI8 := Lib.hid (ho8.ints (by omega))
        obtain ⟨a8, c8, rfl, _⟩ := ownI_cells ho8
        clear hb ho8
        go_wp2_with fail
        refine (H5.out hvs w8 _ HB8.out HI8.out).mono ?_
        rintro e w9 ⟨rfl, hb⟩
        have HB9 := Lib.hid hb
        clear hb
        go_wp2_with fail
        go_ret
        exact ⟨rfl, HB9.out⟩
end Go.Proofs.YthjbnhalbbpmcaaDoor
