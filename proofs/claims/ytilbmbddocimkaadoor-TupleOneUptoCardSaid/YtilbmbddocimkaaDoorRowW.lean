/-
  What TupleRows does, round by round.
-/
import Derived.Test.YtilbmbddocimkaaDoorRowM
import Derived.Deep.RegionHeld3
import Derived.Deep.RegionWith
import Derived.Deep.DeepCutAuto
import Derived.Deep.QuietTactic
import Derived.BigQuiet
namespace Go.Proofs.YtilbmbddocimkaaDoor
open Go.RowKit Od Rw

/-- Numbers off a row of one cell, wherever it lies. -/
theorem nums_at (n : Int) (g : Nat) (W : World) (hc : W.cell? ⟨g, 0, none⟩ = some (.int .i64 n)) (hn : -9223372036854775808 ≤ n ∧ n ≤ 9223372036854775807) :
    Calls Tryd.prog 9 #[.slice (some ⟨g, 0, none⟩) 1 1] W (StrPost W.heap.size W (Pl.numB n)) := by
  have h := nums_any W [n] 1 1 g 0 (by omega) rfl (World.block_lt_of_cell? W _ hc) (by
    intro j hj
    match j, hj with
    | 0, _ => exact hc) (by intro m hm; simp at hm; omega)
  refine h.mono fun e w' ⟨h1, h2⟩ => ⟨?_, h2⟩
  rw [h1]
  simp [Pl.numsB]

/-- What is known of a row of texts and numbers that came in, of which the first n items are gone over. -/
def InRow (w : World) (aS aX : Option Addr) (n : Nat) (ss : List ByteArray) (xs : List Int) : Prop :=
  0 < n → ∃ b off b' off', aS = some ⟨b, off, none⟩ ∧ aX = some ⟨b', off', none⟩ ∧ b < w.heap.size ∧ b' < w.heap.size ∧
    ∀ k, k < n → w.cell? ⟨b, off + k, none⟩ = some (.string (ss.getD k ByteArray.empty)) ∧ w.cell? ⟨b', off' + k, none⟩ = some (.int .i64 (xs.getD k 0))

theorem cell_new (W : World) (v : Value) (T : Nat) : (W.alloc (.cells #[v] T)).cell? ⟨W.heap.size, 0, none⟩ = some v := by
  rw [World.cell?_alloc_at _ _ _ _ rfl]; rfl
theorem keep_grow {w W w' : World} {A1 A2 : Addr} {v1 v2 : Value} (hb : Below W.heap.size W w') (hS : W.cell? A1 = some v1 ∧ W.cell? A2 = some v2 ∧ Below w.heap.size w W) : w'.cell? A1 = some v1 ∧ w'.cell? A2 = some v2 ∧ Below w.heap.size w w' :=
  ⟨(hb.cell (World.block_lt_of_cell? W _ hS.1)).trans hS.1, (hb.cell (World.block_lt_of_cell? W _ hS.2.1)).trans hS.2.1, hS.2.2.trans (hb.mono hS.2.2.size)⟩
theorem keep_alloc {w W : World} {A1 A2 : Addr} {v1 v2 : Value} (o : Obj) (hS : W.cell? A1 = some v1 ∧ W.cell? A2 = some v2 ∧ Below w.heap.size w W) : (W.alloc o).cell? A1 = some v1 ∧ (W.alloc o).cell? A2 = some v2 ∧ Below w.heap.size w (W.alloc o) :=
  keep_grow ((Below.refl _ _).alloc (Nat.le_refl _) o) hS
theorem maxS {w W : World} {A1 A2 : Addr} {v1 v2 : Value} (hm : MaxI w) (hS : W.cell? A1 = some v1 ∧ W.cell? A2 = some v2 ∧ Below w.heap.size w W) : MaxI W := hm.grow hS.2.2
theorem below_dN {B : Nat} {a w : World} (h : Below B a w) (n : Nat) : Below B a (w.drewN n) := h.trans ⟨rfl, rfl, rfl, Nat.le_refl _, fun _ _ => rfl⟩
theorem third {A B C : Prop} (h : A ∧ B ∧ C) : C := h.2.2
theorem str_size (u : ByteArray) (ss : List ByteArray) (xs : List Int) (h : ∀ k, (ss.getD k ByteArray.empty).size ≤ 1048576) (k : Nat) (hk : k ≤ 100) (hu : u.data.toList = rowB ss xs k) : u.size ≤ 209716300 := by
  have := rowB_size ss xs h k
  rw [← hu] at this
  have e : u.data.toList.length = u.size := by simp
  omega

/-- One item more at a row's end. -/
theorem row_more {ss : List ByteArray} {xs : List Int} {u : ByteArray} {k : Nat} (hu : u.data.toList = rowB ss xs k) :
    (u ++ ⟨(textB (ss.getD k ByteArray.empty).data.toList).toArray⟩ ++ ⟨(Pl.numB (xs.getD k 0)).toArray⟩).data.toList = rowB ss xs (k + 1) := by
  rw [ByteArray.data_append, ByteArray.data_append, Array.toList_append, Array.toList_append, hu]
  rfl

set_option maxRecDepth 100000 in
set_option maxHeartbeats 8000000 in
theorem tupleRows_main (aS aT aX aY : Option Addr) (ls lt lx ly cs ct cx cy a b : Nat) (ss tt : List ByteArray) (xs ys : List Int) (w : World) (hm : Hid (MaxI w))
    (hma : min (ls : Int) (lx : Int) = (a : Int)) (hmb : min (lt : Int) (ly : Int) = (b : Int)) (ha : a ≤ 100) (hb : b ≤ 100) (hla : a ≤ ls ∧ a ≤ lx) (hlb : b ≤ lt ∧ b ≤ ly)
    (hA : Hid (InRow w aS aX a ss xs)) (hB : Hid (InRow w aT aY b tt ys)) (hs : Hid (∀ k, (ss.getD k ByteArray.empty).size ≤ 1048576)) (ht : Hid (∀ k, (tt.getD k ByteArray.empty).size ≤ 1048576)) (hx : Hid (InI xs)) (hy : Hid (InI ys)) :
    Calls Tryd.prog 7 #[.slice aS ls cs, .slice aT lt ct, .slice aX lx cx, .slice aY ly cy] w fun e w' => e = .returned (.bool true) ∧ Below w.heap.size w w' := by
  obtain ⟨hla1, hla2⟩ := hla
  obtain ⟨hlb1, hlb2⟩ := hlb
  go_enter Tryd.func7, Tryd.ntmps7
  go_wp2_with fail
  refine (awake_any w).mono ?_
  rintro e w1 ⟨rfl, hb1⟩
  have HB1 := Lib.hid hb1
  clear hb1
  go_wp2_with fail
  clear hma hmb
  go_loopw [11, 12, 13, 14] (fun one two want i wr => ∃ (k : Nat) (u v : ByteArray) (c : Int), (k ≤ a ∨ k ≤ b) ∧ i = .int .i64 k ∧ one = .string u ∧ two = .string v ∧ want = .int .i64 c ∧ Hid (u.data.toList = rowB ss xs (min k a)) ∧ Hid (v.data.toList = rowB tt ys (min k b)) ∧ Hid (c = wn ss tt xs ys (min k (min a b))) ∧ Below w.heap.size w wr) (fun _ _ _ i _ => a + b - (intOf i).toNat)
  case atStart => exact ⟨0, ⟨#[]⟩, ⟨#[]⟩, 0, Or.inl (Nat.zero_le _), rfl, rfl, rfl, rfl, by show _ = _; rw [Nat.zero_min]; rfl, by show _ = _; rw [Nat.zero_min]; rfl, by show _ = _; rw [Nat.zero_min]; rfl, HB1.out⟩
  case round =>
    clear HB1
    obtain ⟨k, u, v, c, hk, rfl, rfl, rfl, rfl, hu, hv, hcw, hbel⟩ := hrel
    have HBE := Lib.hid hbel
    have hus := str_size u ss xs hs.out _ (by omega) hu.out
    have hvs := str_size v tt ys ht.out _ (by omega) hv.out
    clear hbel
    by_cases hka : k < a
    · rw [show min k a = k from by omega] at hu
      by_cases hkb : k < b
      · rw [show min k b = k from by omega] at hv
        rw [show min k (min a b) = k from by omega] at hcw
        go_upto_region 10 with (fail)
        go_cut [11] (fun sl wx => ∃ u', sl = .string u' ∧ Hid (u'.data.toList = rowB ss xs (k + 1)) ∧ Below w.heap.size w wx)
        case first =>
          obtain ⟨g, off, g', off', h1, h2, hg, hg', hcell⟩ := hA.out (by omega)
          subst h1
          subst h2
          obtain ⟨hc1, hc2⟩ := hcell k (by omega)
          have hd1 : wr.cell? ⟨g, off + k, none⟩ = some (.string (ss.getD k ByteArray.empty)) := (HBE.out.cell (p := ⟨g, off + k, none⟩) hg).trans hc1
          have hd2 : wr.cell? ⟨g', off' + k, none⟩ = some (.int .i64 (xs.getD k 0)) := (HBE.out.cell (p := ⟨g', off' + k, none⟩) hg').trans hc2
          have hI := hx.out.get k
          have hz := hs.out k
          clear hcell hc1 hc2
          have hu2 : Hid ((u ++ ⟨(textB (ss.getD k ByteArray.empty).data.toList).toArray⟩ ++ ⟨(Pl.numB (xs.getD k 0)).toArray⟩).data.toList = rowB ss xs (k + 1)) := row_more hu.out
          generalize ss.getD k ByteArray.empty = sk at *
          generalize xs.getD k 0 = xk at *
          have HT : Hid (∀ W, MaxI W → Calls Tryd.prog 11 #[.string sk] W fun e w' => e = .returned (.string ⟨(textB sk.data.toList).toArray⟩) ∧ Below W.heap.size W w') := fun W h => text_w sk W h (by omega)
          have HN : Hid (∀ g W, W.cell? ⟨g, 0, none⟩ = some (.int .i64 xk) → Calls Tryd.prog 9 #[.slice (some ⟨g, 0, none⟩) 1 1] W fun e w' => e = .returned (.string ⟨(Pl.numB xk).toArray⟩) ∧ Below W.heap.size W w') := fun g W h => nums_at xk g W h hI
          have zt := textB_size sk
          have zn := numB_length xk
          have zn' : (⟨(Pl.numB xk).toArray⟩ : ByteArray).size ≤ 9 := by simpa [ByteArray.size] using zn
          clear zn hI
          generalize (⟨(textB sk.data.toList).toArray⟩ : ByteArray) = tb at *
          generalize (⟨(Pl.numB xk).toArray⟩ : ByteArray) = nb at *
          have z1 : ¬ 9223372036854775807 < u.size + tb.size := by omega
          have z2 : ¬ 9223372036854775807 < u.size + tb.size + nb.size := by omega
          have i1 : (k : Int) < (ls : Int) := by omega
          have i2 : (k : Int) < (lx : Int) := by omega
          have i3 : (0 : Int) ≤ (k : Int) := by omega
          go_region_held3 (fun w' => w'.cell? ⟨g, off + k, none⟩ = some (.string sk) ∧ w'.cell? ⟨g', off' + k, none⟩ = some (.int .i64 xk) ∧ Below w.heap.size w w') (first | assumption | exact ⟨hd1, hd2, HBE.out.drew⟩ | exact keep_grow hbn (by assumption) | exact keep_grow hbt (by assumption) | exact keep_alloc _ (by assumption)) (first | (go_at_call 11; refine (HT.out _ ?_).mono ?_; (exact maxS hm.out (by assumption)); rintro e w' ⟨rfl, hbt⟩) | (go_at_call 9; refine (HN.out _ _ ?_).mono ?_; (first | exact cell_new _ _ _ | exact (hbt.cell (p := ⟨wr.heap.size, 0, none⟩) (by simp)).trans (cell_new _ _ _)); rintro e w'' ⟨rfl, hbn⟩))
          all_goals
            go_wp2_with fail
            go_meet
            exact ⟨_, rfl, hu2, third (by assumption)⟩
        case rest =>
          obtain ⟨u', rfl, hu', hbelx⟩ := hcut
          obtain ⟨w2, rfl⟩ : ∃ wx : World, wx = wc := ⟨_, rfl⟩
          have HB2 := Lib.hid hbelx
          clear hbelx hu hus
          go_upto_region 12 with (fail)
          go_cut [12] (fun sl wx => ∃ u', sl = .string u' ∧ Hid (u'.data.toList = rowB tt ys (k + 1)) ∧ Below w.heap.size w wx)
          case first =>
            obtain ⟨g, off, g', off', h1, h2, hg, hg', hcell⟩ := hB.out (by omega)
            subst h1
            subst h2
            obtain ⟨hc1, hc2⟩ := hcell k (by omega)
            have hd1 : w2.cell? ⟨g, off + k, none⟩ = some (.string (tt.getD k ByteArray.empty)) := (HB2.out.cell (p := ⟨g, off + k, none⟩) hg).trans hc1
            have hd2 : w2.cell? ⟨g', off' + k, none⟩ = some (.int .i64 (ys.getD k 0)) := (HB2.out.cell (p := ⟨g', off' + k, none⟩) hg').trans hc2
            have hI := hy.out.get k
            have hz := ht.out k
            clear hcell hc1 hc2
            have hu2 : Hid ((v ++ ⟨(textB (tt.getD k ByteArray.empty).data.toList).toArray⟩ ++ ⟨(Pl.numB (ys.getD k 0)).toArray⟩).data.toList = rowB tt ys (k + 1)) := row_more hv.out
            generalize tt.getD k ByteArray.empty = sk at *
            generalize ys.getD k 0 = xk at *
            have HT : Hid (∀ W, MaxI W → Calls Tryd.prog 11 #[.string sk] W fun e w' => e = .returned (.string ⟨(textB sk.data.toList).toArray⟩) ∧ Below W.heap.size W w') := fun W h => text_w sk W h (by omega)
            have HN : Hid (∀ g W, W.cell? ⟨g, 0, none⟩ = some (.int .i64 xk) → Calls Tryd.prog 9 #[.slice (some ⟨g, 0, none⟩) 1 1] W fun e w' => e = .returned (.string ⟨(Pl.numB xk).toArray⟩) ∧ Below W.heap.size W w') := fun g W h => nums_at xk g W h hI
            have zt := textB_size sk
            have zn := numB_length xk
            have zn' : (⟨(Pl.numB xk).toArray⟩ : ByteArray).size ≤ 9 := by simpa [ByteArray.size] using zn
            clear zn hI
            generalize (⟨(textB sk.data.toList).toArray⟩ : ByteArray) = tb at *
            generalize (⟨(Pl.numB xk).toArray⟩ : ByteArray) = nb at *
            have z1 : ¬ 9223372036854775807 < v.size + tb.size := by omega
            have z2 : ¬ 9223372036854775807 < v.size + tb.size + nb.size := by omega
            have i1 : (k : Int) < (lt : Int) := by omega
            have i2 : (k : Int) < (ly : Int) := by omega
            have i3 : (0 : Int) ≤ (k : Int) := by omega
            go_region_held3 (fun w' => w'.cell? ⟨g, off + k, none⟩ = some (.string sk) ∧ w'.cell? ⟨g', off' + k, none⟩ = some (.int .i64 xk) ∧ Below w.heap.size w w') (first | assumption | exact ⟨hd1, hd2, HB2.out.drew⟩ | exact keep_grow hbn (by assumption) | exact keep_grow hbt (by assumption) | exact keep_alloc _ (by assumption)) (first | (go_at_call 11; refine (HT.out _ ?_).mono ?_; (exact maxS hm.out (by assumption)); rintro e w' ⟨rfl, hbt⟩) | (go_at_call 9; refine (HN.out _ _ ?_).mono ?_; (first | exact cell_new _ _ _ | exact (hbt.cell (p := ⟨w2.heap.size, 0, none⟩) (by simp)).trans (cell_new _ _ _)); rintro e w'' ⟨rfl, hbn⟩))
            all_goals
              go_wp2_with fail
              go_meet
              exact ⟨_, rfl, hu2, third (by assumption)⟩
          case rest =>
            obtain ⟨v', rfl, hv', hbelx⟩ := hcut
            obtain ⟨w3, rfl⟩ : ∃ wx : World, wx = wc := ⟨_, rfl⟩
            have HB3 := Lib.hid hbelx
            clear hbelx hv hvs
            by_cases hc0 : c = 0
            · subst hc0
              obtain ⟨g1, o1, g2, o2, h1, h2, hg1, hg2, hcell⟩ := hA.out (by omega)
              subst h1
              subst h2
              obtain ⟨hc1, hc2⟩ := hcell k (by omega)
              have hd1 : w3.cell? ⟨g1, o1 + k, none⟩ = some (.string (ss.getD k ByteArray.empty)) := (HB3.out.cell (p := ⟨g1, o1 + k, none⟩) hg1).trans hc1
              have hd2 : w3.cell? ⟨g2, o2 + k, none⟩ = some (.int .i64 (xs.getD k 0)) := (HB3.out.cell (p := ⟨g2, o2 + k, none⟩) hg2).trans hc2
              clear hcell hc1 hc2
              obtain ⟨g3, o3, g4, o4, h1, h2, hg3, hg4, hcell⟩ := hB.out (by omega)
              subst h1
              subst h2
              obtain ⟨hc1, hc2⟩ := hcell k (by omega)
              have hd3 : w3.cell? ⟨g3, o3 + k, none⟩ = some (.string (tt.getD k ByteArray.empty)) := (HB3.out.cell (p := ⟨g3, o3 + k, none⟩) hg3).trans hc1
              have hd4 : w3.cell? ⟨g4, o4 + k, none⟩ = some (.int .i64 (ys.getD k 0)) := (HB3.out.cell (p := ⟨g4, o4 + k, none⟩) hg4).trans hc2
              clear hcell hc1 hc2
              have hstep : Hid (wn ss tt xs ys (k + 1) = ic (ss.getD k ByteArray.empty) (tt.getD k ByteArray.empty) (xs.getD k 0) (ys.getD k 0)) := by
                show _ = _
                simp only [wn]
                rw [if_pos hcw.out.symm]
              clear hcw
              generalize ss.getD k ByteArray.empty = sk at *
              generalize tt.getD k ByteArray.empty = tk at *
              generalize xs.getD k 0 = xk at *
              generalize ys.getD k 0 = yk at *
              have i1 : (k : Int) < (ls : Int) := by omega
              have i2 : (k : Int) < (lx : Int) := by omega
              have i3 : (k : Int) < (lt : Int) := by omega
              have i4 : (k : Int) < (ly : Int) := by omega
              have i0 : (0 : Int) ≤ (k : Int) := by omega
              obtain ⟨d, hd⟩ : ∃ d, d = cp sk.data.toList tk.data.toList := ⟨_, rfl⟩
              have HD := Lib.hid hd
              clear hd
              have HQ : Hid (∀ nq, Calls Tryd.prog 21 #[.string sk, .string tk] (w3.drewN nq) fun e w' => e = .returned (.int .i64 d) ∧ w' = w3.drewN nq) := fun nq => (stands_any sk tk (w3.drewN nq) d HD.out.symm).mono fun _ _ ⟨h1, h2⟩ => ⟨h1, h2.symm⟩
              go_wp2_with fail
              go_quiet ((go_at_call 21; exact Calls.quiet_of_same (HQ.out _)))
              clear HQ
              by_cases hd0 : d = 0
              · subst hd0
                have hst2 : Hid (wn ss tt xs ys (k + 1) = sg xk yk) := by
                  show _ = _
                  rw [hstep.out]
                  unfold ic
                  rw [if_pos HD.out.symm]
                clear hstep HD
                rcases Int.lt_trichotomy xk yk with hxy | hxy | hxy
                · have hf : Hid ((-1 : Int) = wn ss tt xs ys (k + 1)) := by
                    show _ = _
                    rw [hst2.out]; unfold sg; rw [if_pos hxy]
                  clear hst2
                  go_wp2_with fail
                  go_quiet (fail)
                  go_wp2_with fail
                  go_quiet (fail)
                  go_wp2_with fail
                  go_roundw
                  case rel => exact ⟨k + 1, u', v', -1, by omega, by go_num, rfl, rfl, rfl, by rw [show min (k + 1) a = k + 1 from by omega]; exact hu', by rw [show min (k + 1) b = k + 1 from by omega]; exact hv', by rw [show min (k + 1) (min a b) = k + 1 from by omega]; exact hf, by first | exact HB3.out | exact below_dN HB3.out _⟩
                  case measure => simp [intOf]; omega
                · subst hxy
                  have hf : Hid ((0 : Int) = wn ss tt xs ys (k + 1)) := by
                    show _ = _
                    rw [hst2.out]; exact (sg_self _).symm
                  clear hst2
                  go_wp2_with fail
                  go_quiet (fail)
                  go_wp2_with fail
                  go_quiet (fail)
                  go_wp2_with fail
                  go_roundw
                  case rel => exact ⟨k + 1, u', v', 0, by omega, by go_num, rfl, rfl, rfl, by rw [show min (k + 1) a = k + 1 from by omega]; exact hu', by rw [show min (k + 1) b = k + 1 from by omega]; exact hv', by rw [show min (k + 1) (min a b) = k + 1 from by omega]; exact hf, by first | exact HB3.out | exact below_dN HB3.out _⟩
                  case measure => simp [intOf]; omega
                · have hf : Hid ((1 : Int) = wn ss tt xs ys (k + 1)) := by
                    show _ = _
                    rw [hst2.out]; unfold sg; rw [if_neg (by omega), if_pos hxy]
                  clear hst2
                  go_wp2_with fail
                  go_quiet (fail)
                  go_wp2_with fail
                  go_quiet (fail)
                  go_wp2_with fail
                  go_roundw
                  case rel => exact ⟨k + 1, u', v', 1, by omega, by go_num, rfl, rfl, rfl, by rw [show min (k + 1) a = k + 1 from by omega]; exact hu', by rw [show min (k + 1) b = k + 1 from by omega]; exact hv', by rw [show min (k + 1) (min a b) = k + 1 from by omega]; exact hf, by first | exact HB3.out | exact below_dN HB3.out _⟩
                  case measure => simp [intOf]; omega
              · have hdb : (d == 0) = false := by simpa using hd0
                have hf : Hid (d = wn ss tt xs ys (k + 1)) := by
                  show _ = _
                  rw [hstep.out]
                  unfold ic
                  rw [if_neg (by rw [← HD.out]; exact hd0)]
                  exact HD.out
                clear hstep HD hd0
                go_wp2_with fail
                go_quiet (fail)
                go_wp2_with fail
                go_quiet (fail)
                go_wp2_with fail
                go_roundw
                case rel => exact ⟨k + 1, u', v', d, by omega, by go_num, rfl, rfl, rfl, by rw [show min (k + 1) a = k + 1 from by omega]; exact hu', by rw [show min (k + 1) b = k + 1 from by omega]; exact hv', by rw [show min (k + 1) (min a b) = k + 1 from by omega]; exact hf, by first | exact HB3.out | exact below_dN HB3.out _⟩
                case measure => simp [intOf]; omega
            · have hc1 : ((c : Int) != 0) = true := by simpa using hc0
              have hstep : Hid (c = wn ss tt xs ys (k + 1)) := by
                show _ = _
                simp only [wn]
                rw [← hcw.out, if_neg hc0]
              clear hcw hc0
              go_wp2_with fail
              go_roundw
              case rel => exact ⟨k + 1, u', v', c, by omega, by go_num, rfl, rfl, rfl, by rw [show min (k + 1) a = k + 1 from by omega]; exact hu', by rw [show min (k + 1) b = k + 1 from by omega]; exact hv', by rw [show min (k + 1) (min a b) = k + 1 from by omega]; exact hstep, HB3.out⟩
              case measure => simp [intOf]; omega
      · go_upto_region 10 with (fail)
        go_cut [11] (fun sl wx => ∃ u', sl = .string u' ∧ Hid (u'.data.toList = rowB ss xs (k + 1)) ∧ Below w.heap.size w wx)
        case first =>
          obtain ⟨g, off, g', off', h1, h2, hg, hg', hcell⟩ := hA.out (by omega)
          subst h1
          subst h2
          obtain ⟨hc1, hc2⟩ := hcell k (by omega)
          have hd1 : wr.cell? ⟨g, off + k, none⟩ = some (.string (ss.getD k ByteArray.empty)) := (HBE.out.cell (p := ⟨g, off + k, none⟩) hg).trans hc1
          have hd2 : wr.cell? ⟨g', off' + k, none⟩ = some (.int .i64 (xs.getD k 0)) := (HBE.out.cell (p := ⟨g', off' + k, none⟩) hg').trans hc2
          have hI := hx.out.get k
          have hz := hs.out k
          clear hcell hc1 hc2
          have hu2 : Hid ((u ++ ⟨(textB (ss.getD k ByteArray.empty).data.toList).toArray⟩ ++ ⟨(Pl.numB (xs.getD k 0)).toArray⟩).data.toList = rowB ss xs (k + 1)) := row_more hu.out
          generalize ss.getD k ByteArray.empty = sk at *
          generalize xs.getD k 0 = xk at *
          have HT : Hid (∀ W, MaxI W → Calls Tryd.prog 11 #[.string sk] W fun e w' => e = .returned (.string ⟨(textB sk.data.toList).toArray⟩) ∧ Below W.heap.size W w') := fun W h => text_w sk W h (by omega)
          have HN : Hid (∀ g W, W.cell? ⟨g, 0, none⟩ = some (.int .i64 xk) → Calls Tryd.prog 9 #[.slice (some ⟨g, 0, none⟩) 1 1] W fun e w' => e = .returned (.string ⟨(Pl.numB xk).toArray⟩) ∧ Below W.heap.size W w') := fun g W h => nums_at xk g W h hI
          have zt := textB_size sk
          have zn := numB_length xk
          have zn' : (⟨(Pl.numB xk).toArray⟩ : ByteArray).size ≤ 9 := by simpa [ByteArray.size] using zn
          clear zn hI
          generalize (⟨(textB sk.data.toList).toArray⟩ : ByteArray) = tb at *
          generalize (⟨(Pl.numB xk).toArray⟩ : ByteArray) = nb at *
          have z1 : ¬ 9223372036854775807 < u.size + tb.size := by omega
          have z2 : ¬ 9223372036854775807 < u.size + tb.size + nb.size := by omega
          have i1 : (k : Int) < (ls : Int) := by omega
          have i2 : (k : Int) < (lx : Int) := by omega
          have i3 : (0 : Int) ≤ (k : Int) := by omega
          go_region_held3 (fun w' => w'.cell? ⟨g, off + k, none⟩ = some (.string sk) ∧ w'.cell? ⟨g', off' + k, none⟩ = some (.int .i64 xk) ∧ Below w.heap.size w w') (first | assumption | exact ⟨hd1, hd2, HBE.out.drew⟩ | exact keep_grow hbn (by assumption) | exact keep_grow hbt (by assumption) | exact keep_alloc _ (by assumption)) (first | (go_at_call 11; refine (HT.out _ ?_).mono ?_; (exact maxS hm.out (by assumption)); rintro e w' ⟨rfl, hbt⟩) | (go_at_call 9; refine (HN.out _ _ ?_).mono ?_; (first | exact cell_new _ _ _ | exact (hbt.cell (p := ⟨wr.heap.size, 0, none⟩) (by simp)).trans (cell_new _ _ _)); rintro e w'' ⟨rfl, hbn⟩))
          all_goals
            go_wp2_with fail
            go_meet
            exact ⟨_, rfl, hu2, third (by assumption)⟩
        case rest =>
          obtain ⟨u', rfl, hu', hbelx⟩ := hcut
          obtain ⟨w2, rfl⟩ : ∃ wx : World, wx = wc := ⟨_, rfl⟩
          have HB2 := Lib.hid hbelx
          clear hbelx hu hus
          have hstep : Hid (c = wn ss tt xs ys (min (k + 1) (min a b))) := by
            rw [show min (k + 1) (min a b) = min k (min a b) from by omega]
            exact hcw
          have hv2 : Hid (v.data.toList = rowB tt ys (min (k + 1) b)) := by
            rw [show min (k + 1) b = min k b from by omega]
            exact hv
          clear hcw hv
          by_cases hc0 : c = 0
          · subst hc0
            go_wp2_with fail
            go_roundw
            case rel => exact ⟨k + 1, u', v, 0, by omega, by go_num, rfl, rfl, rfl, by rw [show min (k + 1) a = k + 1 from by omega]; exact hu', hv2, hstep, HB2.out⟩
            case measure => simp [intOf]; omega
          · have hc1 : ((c : Int) != 0) = true := by simpa using hc0
            clear hc0
            go_wp2_with fail
            go_roundw
            case rel => exact ⟨k + 1, u', v, c, by omega, by go_num, rfl, rfl, rfl, by rw [show min (k + 1) a = k + 1 from by omega]; exact hu', hv2, hstep, HB2.out⟩
            case measure => simp [intOf]; omega
    · by_cases hkb : k < b
      · rw [show min k b = k from by omega] at hv
        go_upto_region 12 with (fail)
        go_cut [12] (fun sl wx => ∃ u', sl = .string u' ∧ Hid (u'.data.toList = rowB tt ys (k + 1)) ∧ Below w.heap.size w wx)
        case first =>
          obtain ⟨g, off, g', off', h1, h2, hg, hg', hcell⟩ := hB.out (by omega)
          subst h1
          subst h2
          obtain ⟨hc1, hc2⟩ := hcell k (by omega)
          have hd1 : wr.cell? ⟨g, off + k, none⟩ = some (.string (tt.getD k ByteArray.empty)) := (HBE.out.cell (p := ⟨g, off + k, none⟩) hg).trans hc1
          have hd2 : wr.cell? ⟨g', off' + k, none⟩ = some (.int .i64 (ys.getD k 0)) := (HBE.out.cell (p := ⟨g', off' + k, none⟩) hg').trans hc2
          have hI := hy.out.get k
          have hz := ht.out k
          clear hcell hc1 hc2
          have hu2 : Hid ((v ++ ⟨(textB (tt.getD k ByteArray.empty).data.toList).toArray⟩ ++ ⟨(Pl.numB (ys.getD k 0)).toArray⟩).data.toList = rowB tt ys (k + 1)) := row_more hv.out
          generalize tt.getD k ByteArray.empty = sk at *
          generalize ys.getD k 0 = xk at *
          have HT : Hid (∀ W, MaxI W → Calls Tryd.prog 11 #[.string sk] W fun e w' => e = .returned (.string ⟨(textB sk.data.toList).toArray⟩) ∧ Below W.heap.size W w') := fun W h => text_w sk W h (by omega)
          have HN : Hid (∀ g W, W.cell? ⟨g, 0, none⟩ = some (.int .i64 xk) → Calls Tryd.prog 9 #[.slice (some ⟨g, 0, none⟩) 1 1] W fun e w' => e = .returned (.string ⟨(Pl.numB xk).toArray⟩) ∧ Below W.heap.size W w') := fun g W h => nums_at xk g W h hI
          have zt := textB_size sk
          have zn := numB_length xk
          have zn' : (⟨(Pl.numB xk).toArray⟩ : ByteArray).size ≤ 9 := by simpa [ByteArray.size] using zn
          clear zn hI
          generalize (⟨(textB sk.data.toList).toArray⟩ : ByteArray) = tb at *
          generalize (⟨(Pl.numB xk).toArray⟩ : ByteArray) = nb at *
          have z1 : ¬ 9223372036854775807 < v.size + tb.size := by omega
          have z2 : ¬ 9223372036854775807 < v.size + tb.size + nb.size := by omega
          have i1 : (k : Int) < (lt : Int) := by omega
          have i2 : (k : Int) < (ly : Int) := by omega
          have i3 : (0 : Int) ≤ (k : Int) := by omega
          go_region_held3 (fun w' => w'.cell? ⟨g, off + k, none⟩ = some (.string sk) ∧ w'.cell? ⟨g', off' + k, none⟩ = some (.int .i64 xk) ∧ Below w.heap.size w w') (first | assumption | exact ⟨hd1, hd2, HBE.out.drew⟩ | exact keep_grow hbn (by assumption) | exact keep_grow hbt (by assumption) | exact keep_alloc _ (by assumption)) (first | (go_at_call 11; refine (HT.out _ ?_).mono ?_; (exact maxS hm.out (by assumption)); rintro e w' ⟨rfl, hbt⟩) | (go_at_call 9; refine (HN.out _ _ ?_).mono ?_; (first | exact cell_new _ _ _ | exact (hbt.cell (p := ⟨wr.heap.size, 0, none⟩) (by simp)).trans (cell_new _ _ _)); rintro e w'' ⟨rfl, hbn⟩))
          all_goals
            go_wp2_with fail
            go_meet
            exact ⟨_, rfl, hu2, third (by assumption)⟩
        case rest =>
          obtain ⟨v', rfl, hv', hbelx⟩ := hcut
          obtain ⟨w2, rfl⟩ : ∃ wx : World, wx = wc := ⟨_, rfl⟩
          have HB2 := Lib.hid hbelx
          clear hbelx hv hvs
          have hstep : Hid (c = wn ss tt xs ys (min (k + 1) (min a b))) := by
            rw [show min (k + 1) (min a b) = min k (min a b) from by omega]
            exact hcw
          have hu2 : Hid (u.data.toList = rowB ss xs (min (k + 1) a)) := by
            rw [show min (k + 1) a = min k a from by omega]
            exact hu
          clear hcw hu
          by_cases hc0 : c = 0
          · subst hc0
            go_wp2_with fail
            go_roundw
            case rel => exact ⟨k + 1, u, v', 0, by omega, by go_num, rfl, rfl, rfl, hu2, by rw [show min (k + 1) b = k + 1 from by omega]; exact hv', hstep, HB2.out⟩
            case measure => simp [intOf]; omega
          · have hc1 : ((c : Int) != 0) = true := by simpa using hc0
            clear hc0
            go_wp2_with fail
            go_roundw
            case rel => exact ⟨k + 1, u, v', c, by omega, by go_num, rfl, rfl, rfl, hu2, by rw [show min (k + 1) b = k + 1 from by omega]; exact hv', hstep, HB2.out⟩
            case measure => simp [intOf]; omega
      · rw [show min k a = a from by omega] at hu
        rw [show min k b = b from by omega] at hv
        rw [show min k (min a b) = min a b from by omega] at hcw
        have hF := rows_cp ss tt xs ys hx.out hy.out a b
        rw [← hu.out, ← hv.out] at hF
        unfold fin at hF
        rw [← hcw.out] at hF
        have HF := Lib.hid hF
        clear hF hcw hu hv hus hvs hA hB
        by_cases hc0 : c = 0
        · subst hc0
          rcases Nat.lt_trichotomy a b with hab | hab | hab
          · have hF2 := HF.out
            rw [if_pos rfl, if_neg (by omega), if_pos hab] at hF2
            have HF2 := Lib.hid hF2
            clear hF2 HF
            have hne : ((a : Int) != (b : Int)) = true := by simp; omega
            go_wp2_with (refine (stands_any _ _ _ _ HF2.out).mono ?_; rintro e w' ⟨rfl, rfl⟩)
            go_ret
            exact ⟨rfl, HBE.out⟩
          · subst hab
            have hF2 := HF.out
            rw [if_pos rfl, if_pos rfl] at hF2
            have HF2 := Lib.hid hF2
            clear hF2 HF
            go_wp2_with (refine (stands_any _ _ _ _ HF2.out).mono ?_; rintro e w' ⟨rfl, rfl⟩)
            go_ret
            exact ⟨rfl, HBE.out⟩
          · have hF2 := HF.out
            rw [if_pos rfl, if_neg (by omega), if_neg (by omega)] at hF2
            have HF2 := Lib.hid hF2
            clear hF2 HF
            have hne : ((a : Int) != (b : Int)) = true := by simp; omega
            go_wp2_with (refine (stands_any _ _ _ _ HF2.out).mono ?_; rintro e w' ⟨rfl, rfl⟩)
            go_ret
            exact ⟨rfl, HBE.out⟩
        · have hF2 := HF.out
          rw [if_neg hc0] at hF2
          have HF2 := Lib.hid hF2
          have hcb : (c == 0) = false := by simpa using hc0
          clear hF2 HF hc0
          go_wp2_with (refine (stands_any _ _ _ _ HF2.out).mono ?_; rintro e w' ⟨rfl, rfl⟩)
          go_ret
          exact ⟨rfl, HBE.out⟩
end Go.Proofs.YtilbmbddocimkaaDoor
