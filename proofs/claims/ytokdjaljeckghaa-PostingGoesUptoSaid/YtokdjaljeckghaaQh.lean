/-
  A cursor goes over all postings: the walk of the statement.
-/
import Derived.Test.YtokdjaljeckghaaCu
namespace Go.Proofs.Ytokdjaljeckghaa
open Go.RowKit
theorem Only.trans {q : Nat} {w w' w'' : World} (h : Only q w w') (k : Only q w' w'') : Only q w w'' := ⟨Nat.le_trans h.1 k.1, fun g h1 h2 => (k.2.1 g (Nat.lt_of_lt_of_le h1 h.1) h2).trans (h.2.1 g h1 h2), fun _ hB => (h.2.2 _ hB).trans (k.2.2 _ hB)⟩
theorem Only.of_below {q : Nat} {w w' : World} (h : Below w.heap.size w w') (hq : q < w.heap.size) : Only q w w' := ⟨h.size, fun k hk _ => h.block k hk, fun _ hB => h.mono (Nat.le_trans hB (Nat.le_of_lt hq))⟩
theorem Only.cell {q : Nat} {w w' : World} (h : Only q w w') {b i : Nat} {u : Value} (hb : b < w.heap.size) (hne : b ≠ q) (hc : w.cell? ⟨b, i, none⟩ = some u) : w'.cell? ⟨b, i, none⟩ = some u := (blk_cell (a := ⟨b, i, none⟩) (h.2.1 b hb hne)).trans hc
theorem IntF.form {F : Nat → Prop} {w : World} {v : Value} {l : List Int} (h : IntF F w v l) : ∃ a cap, v = .slice a l.length cap := by
  obtain ⟨a, cap, h, _⟩ := h
  exact ⟨a, cap, h⟩
set_option maxRecDepth 100000 in
set_option maxHeartbeats 8000000 in
theorem whole14_walk (w : World) (F : Nat → Prop) (v : Value) (d : List Pt.Po) (h : PoS F w v d) :
    Calls Try.prog 9 #[v] w fun e w' => e = .returned (.bool true) ∧ Below w.heap.size w w' := by
  have haw := Lib.hid (fun w => awake14_any w)
  have hnw := Lib.hid (fun (wx : World) (hb : Below w.heap.size w wx) => new_any wx F v d (h.below hb))
  obtain ⟨a, cap, rfl, h1, h2, hv⟩ := h
  obtain ⟨n, hn⟩ : ∃ n, n = d.length := ⟨_, rfl⟩
  have HU := Lib.hid hv
  have HN := Lib.hid hn
  rw [← hn] at h1 hnw ⊢
  clear hv hn
  by_cases hc : Pt.chk (-1) d = 0
  · have HC := Lib.hid hc
    have hNa : Hid (∀ W, Below w.heap.size w W → Calls Try.prog 19 #[.slice a n cap] W fun e w' => ∃ p, e = .returned (.tuple #[.pointer (some ⟨p, 0, none⟩), .int .i64 0]) ∧ CurM w' W.heap.size p d (-1) ∧ Below W.heap.size W w') := fun W hW => by
      refine (hnw.out W hW).mono ?_
      rintro e w1 ⟨hb, (⟨q1, _⟩ | ⟨_, p, q2, q3⟩)⟩
      · exact absurd HC.out q1
      · exact ⟨p, q2, q3, hb⟩
    have hnl : n ≤ 1048576 := by rw [HN.out]; exact Pt.chk_len hc
    have hmem := Lib.hid (Pt.chk_mem hc)
    clear hnw hc
    go_enter Try.func9, Try.ntmps9
    go_wp2_with (first
      | (go_at_call 19; refine (hNa.out w (Below.refl _ _)).mono ?_; rintro e1 w1 ⟨p, rfl, hC1, hb1⟩; have HC1 := Lib.hid hC1; have HB1 := Lib.hid hb1; clear hC1 hb1)
      | (go_at_call 19; refine (hNa.out _ HB1.out).mono ?_; rintro e1 w2 ⟨q, rfl, hC2, hb2⟩; have HP2 := Lib.hid (pair_new HC1.out HB1.out hC2 hb2); clear hC2 hb2 hNa)
      | (go_at_call 13; refine (haw.out _).mono ?_; rintro e1 w3 ⟨rfl, hb3⟩; have HP3 := Lib.hid (HP2.out.below hb3); clear hb3))
    clear HC1 HB1 HP2
    go_loopg [7] n (fun g i wx => ∃ (k : Nat) (k2 : Int), k ≤ n ∧ g = n - k ∧ i = .int .i64 k ∧ (k2 = (k : Int) ∨ (k = 0 ∧ k2 = -1)) ∧ Hid (Pair w wx p q d ((k : Int) - 1) k2))
    case atStart => exact ⟨0, -1, Nat.zero_le _, rfl, rfl, .inr ⟨rfl, rfl⟩, HP3⟩
    case round =>
      obtain ⟨k, k2, hk, rfl, rfl, hk2, HP⟩ := hrel
      have hmx : Hid (max k2 0 = (k : Int)) := by show _ = _; omega
      have hk2n : Hid (-1 ≤ k2 ∧ k2 ≤ n) := by show _ ∧ _; omega
      clear hk2 HP3
      by_cases hkn : k < n
      · have kx : k < d.length := by rw [← HN.out]; exact hkn
        have i2 : (k : Int) < (n : Int) := by omega
        have i0 : (0 : Int) ≤ (k : Int) := by omega
        obtain ⟨gl, o, rfl, hg, _, hcu⟩ := HU.out (by omega)
        obtain ⟨a1, vat, a2, a3⟩ := hcu k kx
        have hme := hmem.out d[k] (List.getElem_mem kx)
        have hN1 : Hid (∀ W, Pair w W p q d ((k : Int) - 1) k2 → Calls Try.prog 21 #[.pointer (some ⟨p, 0, none⟩)] W fun e w' => e = .returned (.bool true) ∧ Pair w w' p q d (k : Int) k2) := fun W hW =>
          (pair_next hW (by omega) (by omega) true (decide_eq_true (by omega)) (k : Int) (by omega)).mono fun e w' h => ⟨h.1, h.2.1⟩
        obtain ⟨x, hx⟩ : ∃ x, x = d[k].doc := ⟨_, rfl⟩
        obtain ⟨l, hl⟩ : ∃ l, l = d[k].ats := ⟨_, rfl⟩
        have hA1 : Hid (∀ W, Pair w W p q d (k : Int) k2 → Calls Try.prog 22 #[.pointer (some ⟨q, 0, none⟩), .int .i64 x] W fun e w' => e = .returned (.bool true) ∧ Pair w w' p q d (k : Int) (k : Int)) := fun W hW =>
          (pair_adv hW.swap k hmx.out (by omega) x k (by rw [hx]; exact Pt.adv_at HC.out (Nat.le_refl _) kx) true (decide_eq_true kx)).mono fun e w' h => ⟨h.1, h.2.1.swap⟩
        have hQ1 : Hid (∀ W, Pair w W p q d (k : Int) (k : Int) → Calls Try.prog 20 #[.pointer (some ⟨p, 0, none⟩)] W fun e w' => ∃ va, e = .returned (.tuple #[.agg #[.int .i64 x, va], .bool true]) ∧ IntF (fun _ => True) w' va l ∧ Below W.heap.size W w' ∧ Pair w w' p q d (k : Int) (k : Int)) := fun W hW =>
          pair_post hW k kx rfl x l hx.symm hl.symm
        have hQ2 : Hid (∀ W, Pair w W p q d (k : Int) (k : Int) → Calls Try.prog 20 #[.pointer (some ⟨q, 0, none⟩)] W fun e w' => ∃ va, e = .returned (.tuple #[.agg #[.int .i64 x, va], .bool true]) ∧ IntF (fun _ => True) w' va l ∧ Below W.heap.size W w' ∧ Pair w w' p q d (k : Int) (k : Int)) := fun W hW =>
          (pair_post hW.swap k kx rfl x l hx.symm hl.symm).mono fun e w' ⟨va, h1, h2, h3, h4⟩ => ⟨va, h1, h2, h3, h4.swap⟩
        have hA2 : Hid (∀ W, Pair w W p q d (k : Int) (k : Int) → Calls Try.prog 22 #[.pointer (some ⟨q, 0, none⟩), .int .i64 (x + 1)] W fun e w' => e = .returned (.bool (decide (k + 1 < n))) ∧ Pair w w' p q d (k : Int) ((k : Int) + 1) ∧ Only q W w') := fun W hW =>
          (pair_adv hW.swap k (by omega) (by omega) (x + 1) (k + 1) (by rw [hx]; exact Pt.adv_next HC.out kx) (decide (k + 1 < n)) (by rw [← HN.out])).mono fun e w' h => ⟨h.1, h.2.1.swap, h.2.2⟩
        have hO : Hid (∀ W va vb, IntF (fun _ => True) W va l → IntF F W vb l → Calls Try.prog 24 #[.agg #[.int .i64 x, va], .agg #[.int .i64 x, vb]] W fun e w' => e = .returned (.bool true) ∧ Below W.heap.size W w') := fun W va vb e1 e2 =>
          (oneR_any W _ F va vb x x l l e1 e2).mono fun e w' h => ⟨by rw [h.1, decide_eq_true rfl], h.2⟩
        have hx0 : 0 ≤ x ∧ x ≤ 1073741824 := by rw [hx]; constructor <;> omega
        have hxw : IntKind.i64.wrap (x + 1) = x + 1 := IntWalk.i64_in _ (by omega)
        have hkw : IntKind.i64.wrap ((k : Int) + 1) = (k : Int) + 1 := IntWalk.i64_in _ (by omega)
        rw [← hx] at a1
        rw [← hl] at a3
        clear hcu hx hl hme HU
        obtain ⟨av, cv, fv⟩ := a3.form
        obtain ⟨m, hm⟩ : ∃ m, m = l.length := ⟨_, rfl⟩
        have HM := Lib.hid hm
        rw [← hm] at fv
        clear hm
        subst fv
        have A1 := Lib.hid a1
        have A2 := Lib.hid a2
        have A3 := Lib.hid a3
        clear a1 a2 a3
        go_wp2_with (first
          | (go_at_call 21; refine (hN1.out _ HP.out).mono ?_; rintro e1 w4 ⟨rfl, hP4⟩; have HP4 := Lib.hid hP4; have c4 := (hP4.old.cell (p := ⟨gl, o + k * 2, none⟩) hg).trans A1.out; clear hP4)
          | (go_at_call 22; refine (hA1.out _ HP4.out).mono ?_; rintro e1 w5 ⟨rfl, hP5⟩; have HP5 := Lib.hid hP5; clear hP5)
          | (go_at_call 20; refine (hQ1.out _ HP5.out).mono ?_; rintro e1 w6 ⟨v6, rfl, hI6, hb6, hP6⟩; have HP6 := Lib.hid hP6; have HI6 := Lib.hid hI6; obtain ⟨a6, c6, f6⟩ := hI6.form; rw [← HM.out] at f6; clear hP6 hI6 hb6 hQ1; subst f6)
          | (go_at_call 20; refine (hQ2.out _ (HP6.out.below ((Below.refl _ _).alloc (Nat.le_refl _) _))).mono ?_; rintro e1 w7 ⟨v7, rfl, hI7, hb7, hP7⟩; have HP7 := Lib.hid hP7; have HI7 := Lib.hid hI7; have HB7 := Lib.hid hb7; obtain ⟨a7, c7, f7⟩ := hI7.form; rw [← HM.out] at f7; clear hP7 hI7 hb7 hQ2; subst f7))
        have i1 : (0 : Int) ≤ (k : Int) := by omega
        have i3 : (k : Int) < (n : Int) := by omega
        obtain ⟨w8, hw8⟩ : ∃ w8, w8 = w7.alloc (.cells #[.int .i64 x, .slice a7 m c7] 40) := ⟨_, rfl⟩
        have B78 : Below w7.heap.size w7 w8 := by rw [hw8]; exact (Below.refl _ _).alloc (Nat.le_refl _) _
        have L6 : (w6.alloc (.cells #[.int .i64 x, .slice a6 m c6] 40)).heap.size = w6.heap.size + 1 := by simp
        have L7 : w8.heap.size = w7.heap.size + 1 := by rw [hw8]; simp
        have B68 : Below (w6.alloc (.cells #[.int .i64 x, .slice a6 m c6] 40)).heap.size (w6.alloc (.cells #[.int .i64 x, .slice a6 m c6] 40)) w8 := HB7.out.trans (B78.mono HB7.out.size)
        have HP8 := Lib.hid (HP7.out.below B78)
        have z6 : w8.heap[w6.heap.size]? = some (.cells #[.int .i64 x, .slice a6 m c6] 40 (0, 0)) := (B68.block _ (by rw [L6]; exact Nat.lt_succ_self _)).trans (Go.Deep.blk_alloc_new _ _)
        have z7 : w8.heap[w7.heap.size]? = some (.cells #[.int .i64 x, .slice a7 m c7] 40 (0, 0)) := by rw [hw8]; exact Go.Deep.blk_alloc_new _ _
        have I6 : IntF (fun _ => True) w8 (.slice a6 m c6) l := (HI6.out.below ((Below.refl _ _).alloc (Nat.le_refl _) _)).below B68
        have I7 : IntF (fun _ => True) w8 (.slice a7 m c7) l := HI7.out.below B78
        have I8 : IntF F w8 (.slice av m cv) l := A3.out.below HP8.out.old
        have n6 : w6.heap.size ≠ q := fun e => Nat.lt_irrefl q (by have := HP6.out.two.lt; omega)
        have n7 : w7.heap.size ≠ q := fun e => Nat.lt_irrefl q (by have := HP7.out.two.lt; omega)
        have ng : gl ≠ q := fun e => Nat.lt_irrefl q (by have := HP6.out.two.base; omega)
        have gl8 : gl < w8.heap.size := Nat.lt_of_lt_of_le hg HP8.out.old.size
        rw [← hw8]
        obtain ⟨b6, hb6⟩ : ∃ b6, b6 = w6.heap.size := ⟨_, rfl⟩
        obtain ⟨b7, hb7⟩ : ∃ b7, b7 = w7.heap.size := ⟨_, rfl⟩
        rw [← hb6] at z6 n6 ⊢
        rw [← hb7] at z7 n7 ⊢
        have hb6l := blk_lt z6
        have hb7l := blk_lt z7
        obtain ⟨y1, y2⟩ := po_box z6
        obtain ⟨y3, y4⟩ := po_box z7
        have HK : Hid (∀ W, Only q w8 W → W.cell? ⟨b6, 0, none⟩ = some (.int .i64 x) ∧ W.cell? ⟨b6, 1, none⟩ = some (.slice a6 m c6) ∧ W.cell? ⟨b7, 0, none⟩ = some (.int .i64 x) ∧ W.cell? ⟨b7, 1, none⟩ = some (.slice a7 m c7) ∧ W.cell? ⟨gl, o + k * 2, none⟩ = some (.int .i64 x) ∧ W.cell? ⟨gl, o + k * 2 + 1, none⟩ = some (.slice av m cv)) := fun W hW =>
          ⟨hW.cell hb6l n6 y1, hW.cell hb6l n6 y2, hW.cell hb7l n7 y3, hW.cell hb7l n7 y4, hW.cell gl8 ng ((HP8.out.old.cell (p := ⟨gl, o + k * 2, none⟩) hg).trans A1.out), hW.cell gl8 ng ((HP8.out.old.cell (p := ⟨gl, o + k * 2 + 1, none⟩) hg).trans A2.out)⟩
        have O1 : Hid (∀ W, Below w8.heap.size w8 W → Calls Try.prog 24 #[.agg #[.int .i64 x, .slice a6 m c6], .agg #[.int .i64 x, .slice av m cv]] W fun e w' => e = .returned (.bool true) ∧ Below W.heap.size W w') := fun W hW => hO.out W _ _ (I6.below hW) (I8.below hW)
        have O2 : Hid (∀ W, Below w8.heap.size w8 W → Calls Try.prog 24 #[.agg #[.int .i64 x, .slice a7 m c7], .agg #[.int .i64 x, .slice av m cv]] W fun e w' => e = .returned (.bool true) ∧ Below W.heap.size W w') := fun W hW => hO.out W _ _ (I7.below hW) (I8.below hW)
        have HQ8 := Lib.hid HP8.out.two.lt
        have HB8 : Hid (Below w8.heap.size w8 w8.drew) := (Below.refl _ _).drew
        have hq8 : Only q w8 w8.drew := Only.of_below HB8.out HQ8.out
        clear hw8 B78 L6 L7 B68 z6 z7 I6 I7 I8 n6 n7 ng gl8 hb6 hb7 hb6l hb7l y1 y2 y3 y4 hO HP HP4 HP5 HP6 HP7 HI6 HI7 HB7 A1 A2 A3 hN1 hA1 c4 hg hmx hk2n
        by_cases hlast : k + 1 < n
        · rw [decide_eq_true hlast] at hA2
          have i4 : (k : Int) + 1 < (n : Int) := by omega
          clear hlast
          go_region_held3 (fun W => (W.cell? ⟨b6, 0, none⟩ = some (.int .i64 x) ∧ W.cell? ⟨b6, 1, none⟩ = some (.slice a6 m c6) ∧ W.cell? ⟨b7, 0, none⟩ = some (.int .i64 x) ∧ W.cell? ⟨b7, 1, none⟩ = some (.slice a7 m c7) ∧ W.cell? ⟨gl, o + k * 2, none⟩ = some (.int .i64 x) ∧ W.cell? ⟨gl, o + k * 2 + 1, none⟩ = some (.slice av m cv))) (exact HK.out _ (by assumption)) (first
            | (go_at_call 24; refine (O1.out _ HB8.out).mono ?_; rintro e1 w9 ⟨rfl, hb9⟩; have HB9 := Lib.hid (HB8.out.trans (hb9.mono HB8.out.size)); have hq9 : Only q w8 w9 := Only.of_below HB9.out HQ8.out; clear hb9 O1)
            | (go_at_call 24; refine (O2.out _ HB9.out).mono ?_; rintro e1 w10 ⟨rfl, hb10⟩; have HB10 := Lib.hid (HB9.out.trans (hb10.mono HB9.out.size)); have hq10 : Only q w8 w10 := Only.of_below HB10.out HQ8.out; clear hb10 O2)
            | (go_at_call 22; refine (hA2.out _ (HP8.out.below HB10.out)).mono ?_; rintro e1 w11 ⟨rfl, hP11, ho11⟩; have HP11 := Lib.hid hP11; have hq11 : Only q w8 w11 := (Only.of_below HB10.out HQ8.out).trans ho11; clear hP11 ho11))
          all_goals
            clear hq8 hq9 hq10 hq11
            go_wp2_with fail
            go_roundg (n - (k + 1))
            case rel => exact ⟨k + 1, (k : Int) + 1, by omega, rfl, by go_num, .inl (by omega), by rw [show ((k + 1 : Nat) : Int) - 1 = (k : Int) by omega]; exact HP11⟩
            case measure => omega
        · rw [decide_eq_false hlast] at hA2
          have i4 : ¬ (k : Int) + 1 < (n : Int) := by omega
          clear hlast
          go_region_held3 (fun W => (W.cell? ⟨b6, 0, none⟩ = some (.int .i64 x) ∧ W.cell? ⟨b6, 1, none⟩ = some (.slice a6 m c6) ∧ W.cell? ⟨b7, 0, none⟩ = some (.int .i64 x) ∧ W.cell? ⟨b7, 1, none⟩ = some (.slice a7 m c7) ∧ W.cell? ⟨gl, o + k * 2, none⟩ = some (.int .i64 x) ∧ W.cell? ⟨gl, o + k * 2 + 1, none⟩ = some (.slice av m cv))) (exact HK.out _ (by assumption)) (first
            | (go_at_call 24; refine (O1.out _ HB8.out).mono ?_; rintro e1 w9 ⟨rfl, hb9⟩; have HB9 := Lib.hid (HB8.out.trans (hb9.mono HB8.out.size)); have hq9 : Only q w8 w9 := Only.of_below HB9.out HQ8.out; clear hb9 O1)
            | (go_at_call 24; refine (O2.out _ HB9.out).mono ?_; rintro e1 w10 ⟨rfl, hb10⟩; have HB10 := Lib.hid (HB9.out.trans (hb10.mono HB9.out.size)); have hq10 : Only q w8 w10 := Only.of_below HB10.out HQ8.out; clear hb10 O2)
            | (go_at_call 22; refine (hA2.out _ (HP8.out.below HB10.out)).mono ?_; rintro e1 w11 ⟨rfl, hP11, ho11⟩; have HP11 := Lib.hid hP11; have hq11 : Only q w8 w11 := (Only.of_below HB10.out HQ8.out).trans ho11; clear hP11 ho11))
          all_goals
            clear hq8 hq9 hq10 hq11
            go_wp2_with fail
            go_roundg (n - (k + 1))
            case rel => exact ⟨k + 1, (k : Int) + 1, by omega, rfl, by go_num, .inl (by omega), by rw [show ((k + 1 : Nat) : Int) - 1 = (k : Int) by omega]; exact HP11⟩
            case measure => omega
      · obtain rfl : k = n := by omega
        have hN1 : Hid (∀ W, Pair w W p q d ((k : Int) - 1) k2 → Calls Try.prog 21 #[.pointer (some ⟨p, 0, none⟩)] W fun e w' => e = .returned (.bool false) ∧ Pair w w' p q d (k : Int) k2) := fun W hW =>
          (pair_next hW (by omega) (by have := HN.out; omega) false (decide_eq_false (by have := HN.out; omega)) (k : Int) (by have := HN.out; omega)).mono fun e w' h => ⟨h.1, h.2.1⟩
        have hN2 : Hid (∀ W, Pair w W p q d (k : Int) k2 → Calls Try.prog 21 #[.pointer (some ⟨p, 0, none⟩)] W fun e w' => e = .returned (.bool false) ∧ Pair w w' p q d (k : Int) k2) := fun W hW =>
          (pair_next hW (by omega) (by have := HN.out; omega) false (decide_eq_false (by have := HN.out; omega)) (k : Int) (by have := HN.out; omega)).mono fun e w' h => ⟨h.1, h.2.1⟩
        have hA1 : Hid (∀ W, Pair w W p q d (k : Int) k2 → Calls Try.prog 22 #[.pointer (some ⟨p, 0, none⟩), .int .i64 0] W fun e w' => e = .returned (.bool false) ∧ Pair w w' p q d (k : Int) k2) := fun W hW =>
          (pair_adv hW k (by omega) (by have := HN.out; omega) 0 k (Pt.adv_eq (Nat.le_refl _) (by have := HN.out; omega) (fun i _ h1 h2 => by omega) (fun h => by have := HN.out; omega)) false (decide_eq_false (by have := HN.out; omega))).mono fun e w' h => ⟨h.1, h.2.1⟩
        have hN3 : Hid (∀ W, Pair w W p q d (k : Int) k2 → Calls Try.prog 21 #[.pointer (some ⟨q, 0, none⟩)] W fun e w' => e = .returned (.bool false) ∧ Below w.heap.size w w') := fun W hW =>
          (pair_next hW.swap (by have := hk2n.out; omega) (by have := hk2n.out; have := HN.out; omega) false (decide_eq_false (by have := hk2n.out; have := hmx.out; have := HN.out; omega)) _ rfl).mono fun e w' h => ⟨h.1, h.2.1.old⟩
        go_wp2_with (first
          | (go_at_call 21; refine (hN1.out _ HP.out).mono ?_; rintro e1 w4 ⟨rfl, hP4⟩; have HP4 := Lib.hid hP4; clear hP4 hN1)
          | (go_at_call 21; refine (hN2.out _ HP4.out).mono ?_; rintro e1 w5 ⟨rfl, hP5⟩; have HP5 := Lib.hid hP5; clear hP5 hN2)
          | (go_at_call 22; refine (hA1.out _ HP5.out).mono ?_; rintro e1 w6 ⟨rfl, hP6⟩; have HP6 := Lib.hid hP6; clear hP6 hA1)
          | (go_at_call 21; refine (hN3.out _ HP6.out).mono ?_; rintro e1 w7 ⟨rfl, hb7⟩; have HB7 := Lib.hid hb7; clear hb7 hN3))
        go_ret
        exact ⟨rfl, HB7.out⟩
  · have hNa : Hid (∀ W, Below w.heap.size w W → Calls Try.prog 19 #[.slice a n cap] W fun e w' => e = .returned (.tuple #[.pointer none, .int .i64 (Pt.chk (-1) d)]) ∧ Below W.heap.size W w') := fun W hW => by
      refine (hnw.out W hW).mono ?_
      rintro e w1 ⟨hb, (⟨_, q2⟩ | ⟨q1, _⟩)⟩
      · exact ⟨q2, hb⟩
      · exact absurd q1 hc
    generalize Pt.chk (-1) d = c at *
    have hcb : (c != 0) = true := by simpa using hc
    have hcc : (c != c) = false := by simp
    have hcd : (c == c) = true := by simp
    clear hnw hc HU
    go_enter Try.func9, Try.ntmps9
    go_wp2_with (first
      | (go_at_call 19; refine (hNa.out w (Below.refl _ _)).mono ?_; rintro e1 w1 ⟨rfl, hb1⟩; have HB1 := Lib.hid hb1; clear hb1)
      | (go_at_call 19; refine (hNa.out _ HB1.out).mono ?_; rintro e1 w2 ⟨rfl, hb2⟩; have HB2 := Lib.hid (HB1.out.trans (hb2.mono HB1.out.size)); clear hb2 hNa)
      | (go_at_call 13; refine (haw.out w2).mono ?_; rintro e1 w3 ⟨rfl, hb3⟩; have HB3 := Lib.hid (HB2.out.trans (hb3.mono HB2.out.size)); clear hb3 HB2)
      | (go_at_call 13; refine (haw.out w3).mono ?_; rintro e1 w4 ⟨rfl, hb4⟩; have HB4 := Lib.hid (HB3.out.trans (hb4.mono HB3.out.size)); clear hb4 HB3))
    go_ret
    exact ⟨rfl, HB4.out⟩
end Go.Proofs.Ytokdjaljeckghaa
