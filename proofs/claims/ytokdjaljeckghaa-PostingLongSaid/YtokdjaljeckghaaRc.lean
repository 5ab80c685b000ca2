/-
  Advance over many postings: the walk of the statement.
-/
import Derived.Test.YtokdjaljeckghaaCu
import Derived.Deep.DeepCutAuto
namespace Go.Proofs.Ytokdjaljeckghaa
open Go.RowKit
namespace Pt
/-- Every so-many-th document. -/
def lg (s k : Nat) : List Po := (List.range k).map fun i => ⟨((i * s : Nat) : Int), [((i % 7 : Nat) : Int)]⟩
theorem lg_length (s k : Nat) : (lg s k).length = k := by simp [lg]
theorem lg_succ (s k : Nat) : lg s (k + 1) = lg s k ++ [⟨((k * s : Nat) : Int), [((k % 7 : Nat) : Int)]⟩] := by simp [lg, List.range_succ]
theorem lg_get (s k i : Nat) (h : i < (lg s k).length) : (lg s k)[i] = ⟨((i * s : Nat) : Int), [((i % 7 : Nat) : Int)]⟩ := by simp [lg]
theorem chkA_one (i : Nat) : chkA (-1) [((i % 7 : Nat) : Int)] = 0 := by
  have h : i % 7 < 7 := Nat.mod_lt _ (by omega)
  rw [chkA_cons, if_neg (by omega), if_neg (by omega)]
  rfl
theorem chk_lg' (s : Nat) (hs : 0 < s) : ∀ (k a : Nat) (d : Int), d < ((a * s : Nat) : Int) → (a + k) * s ≤ 1048576 → chk d ((List.range' a k).map fun i => ⟨((i * s : Nat) : Int), [((i % 7 : Nat) : Int)]⟩) = 0 := by
  intro k
  induction k with
  | zero => intro a d _ _; rfl
  | succ k ih =>
    intro a d h1 h2
    have e1 : (a + (k + 1)) * s = a * s + s + k * s := by rw [Nat.add_mul, Nat.add_mul]; omega
    have e2 : (a + 1) * s = a * s + s := by rw [Nat.add_mul]; omega
    rw [List.range'_succ, List.map_cons, chk_cons', if_neg (by show ¬ (1048576 : Int) ≤ ((a * s : Nat) : Int); omega), if_neg (by
      show ¬ (((a * s : Nat) : Int) < 0 ∨ ((a * s : Nat) : Int) ≤ d ∨ [((a % 7 : Nat) : Int)] = [])
      rintro (h | h | h)
      · omega
      · omega
      · cases h), if_pos (chkA_one a)]
    exact ih (a + 1) _ (by show ((a * s : Nat) : Int) < (((a + 1) * s : Nat) : Int); omega) (by rw [show a + 1 + k = a + (k + 1) by omega]; exact h2)
theorem chk_lg (s k : Nat) (hs : 0 < s) (h : k * s ≤ 1048576) : chk (-1) (lg s k) = 0 := by
  unfold lg
  rw [List.range_eq_range']
  exact chk_lg' s hs k 0 (-1) (by omega) (by rw [Nat.zero_add]; exact h)
end Pt
theorem own_one (w : World) (B : Nat) (hB : B ≤ w.heap.size) (x : Int) : OwnI (w.alloc (.cells #[.int .i64 x] 3)) B (.slice (some ⟨w.heap.size, 0, none⟩) 1 1) [x] :=
  ⟨by simp [intsV], .inr ⟨w.heap.size, 1, #[.int .i64 x], rfl, hB, Go.Deep.blk_alloc_new _ _, Nat.le_refl _, by unfold maxLen; omega, rfl, rfl⟩⟩
theorem first_cell {w : World} {B : Nat} {v : Value} {x : Int} (h : OwnI w B v [x]) : ∃ q c, v = .slice (some ⟨q, 0, none⟩) 1 c ∧ q < w.heap.size ∧ w.cell? ⟨q, 0, none⟩ = some (.int .i64 x) := by
  obtain ⟨g, a, cap, h1, _, _, h4, _, _, h6, _⟩ := h.opened
  obtain ⟨rfl, h5⟩ := h4 (by simp)
  exact ⟨g, cap, h1, h5, h6 0 (by simp)⟩
set_option maxRecDepth 100000 in
set_option maxHeartbeats 8000000 in
theorem long14_walk (w : World) (s0 n0 : Int) (u : Value) (S : List Int) (hS : IntS w u S) :
    Calls Try.prog 7 #[.int .i64 s0, .int .i64 n0, u] w fun e w' => e = .returned (.bool true) ∧ Below w.heap.size w w' := by
  have haw := Lib.hid (fun w => awake14_any w)
  obtain ⟨aS, cS, rfl, s1, s2, hsc⟩ := hS.intF.cells
  obtain ⟨m, hm⟩ : ∃ m, m = S.length := ⟨_, rfl⟩
  have HS := Lib.hid hsc
  have HM := Lib.hid hm
  rw [← hm] at s1 ⊢
  clear hsc hm hS
  by_cases b1 : s0 < 1
  · go_enter Try.func7, Try.ntmps7
    go_wp2_with (first
      | (go_at_call 13; refine (haw.out w).mono ?_; rintro e1 w1 ⟨rfl, hb1⟩; have HB1 := Lib.hid hb1; clear hb1)
      | (go_at_call 13; refine (haw.out w1).mono ?_; rintro e1 w2 ⟨rfl, hb2⟩; have HB2 := Lib.hid (HB1.out.trans (hb2.mono HB1.out.size)); clear hb2))
    go_ret
    exact ⟨rfl, HB2.out⟩
  · by_cases b2 : 40 < s0
    · go_enter Try.func7, Try.ntmps7
      go_wp2_with (first
        | (go_at_call 13; refine (haw.out w).mono ?_; rintro e1 w1 ⟨rfl, hb1⟩; have HB1 := Lib.hid hb1; clear hb1)
        | (go_at_call 13; refine (haw.out w1).mono ?_; rintro e1 w2 ⟨rfl, hb2⟩; have HB2 := Lib.hid (HB1.out.trans (hb2.mono HB1.out.size)); clear hb2))
      go_ret
      exact ⟨rfl, HB2.out⟩
    · by_cases b3 : n0 < 0
      · go_enter Try.func7, Try.ntmps7
        go_wp2_with (first
          | (go_at_call 13; refine (haw.out w).mono ?_; rintro e1 w1 ⟨rfl, hb1⟩; have HB1 := Lib.hid hb1; clear hb1)
          | (go_at_call 13; refine (haw.out w1).mono ?_; rintro e1 w2 ⟨rfl, hb2⟩; have HB2 := Lib.hid (HB1.out.trans (hb2.mono HB1.out.size)); clear hb2))
        go_ret
        exact ⟨rfl, HB2.out⟩
      · by_cases b4 : 20000 < n0
        · go_enter Try.func7, Try.ntmps7
          go_wp2_with (first
            | (go_at_call 13; refine (haw.out w).mono ?_; rintro e1 w1 ⟨rfl, hb1⟩; have HB1 := Lib.hid hb1; clear hb1)
            | (go_at_call 13; refine (haw.out w1).mono ?_; rintro e1 w2 ⟨rfl, hb2⟩; have HB2 := Lib.hid (HB1.out.trans (hb2.mono HB1.out.size)); clear hb2))
          go_ret
          exact ⟨rfl, HB2.out⟩
        · obtain ⟨s, rfl⟩ := Int.eq_ofNat_of_zero_le (show 0 ≤ s0 by omega)
          obtain ⟨n, rfl⟩ := Int.eq_ofNat_of_zero_le (show 0 ≤ n0 by omega)
          have hs0 : Hid (0 < s ∧ s ≤ 40) := by show _ ∧ _; omega
          have hn0 : Hid (n ≤ 20000) := by show _ ≤ _; omega
          have hns : Hid (n * s ≤ 800000) := Nat.le_trans (Nat.mul_le_mul hn0.out hs0.out.2) (by decide)
          have hck : Hid (Pt.chk (-1) (Pt.lg s n) = 0) := Pt.chk_lg s n hs0.out.1 (by have := hns.out; omega)
          have hnw := Lib.hid (fun (wx : World) (v1 : Value) (hb : PoS (fun g => w.heap.size ≤ g) wx v1 (Pt.lg s n)) => new_any wx _ v1 _ hb)
          have hNa : Hid (∀ W v1, PoS (fun g => w.heap.size ≤ g) W v1 (Pt.lg s n) → Calls Try.prog 19 #[v1] W fun e w' => ∃ p, e = .returned (.tuple #[.pointer (some ⟨p, 0, none⟩), .int .i64 0]) ∧ CurM w' W.heap.size p (Pt.lg s n) (-1) ∧ Below W.heap.size W w') := fun W v1 hW => by
            refine (hnw.out W v1 hW).mono ?_
            rintro e w1 ⟨hb, (⟨q1, _⟩ | ⟨_, p, q2, q3⟩)⟩
            · exact absurd hck.out q1
            · exact ⟨p, q2, q3, hb⟩
          clear hnw hck
          go_enter Try.func7, Try.ntmps7
          go_wp2_with (go_at_call 13; refine (haw.out _).mono ?_; rintro e1 w1 ⟨rfl, hb1⟩; have HB1 := Lib.hid hb1; clear hb1)
          go_loopg [7, 8] n (fun g lv iv wx => ∃ (k : Nat) (vs : List Value), k ≤ n ∧ g = n - k ∧ iv = .int .i64 k ∧ OwnP wx w.heap.size lv (Pt.lg s k) vs ∧ Below w.heap.size w wx)
          case atStart => exact ⟨0, [], Nat.zero_le _, rfl, rfl, OwnP.nil _ _, HB1.out⟩
          case round =>
            clear HB1
            obtain ⟨k, vs, hk, rfl, rfl, hown, hbel⟩ := hrel
            have HO := Lib.hid hown
            have HB := Lib.hid hbel
            clear hown hbel
            obtain ⟨_, a6, c6, hv6, _⟩ := HO.out.opened
            rw [Pt.lg_length] at hv6
            subst hv6
            by_cases hkn : k < n
            · have i2 : (k : Int) < (n : Int) := by omega
              have hks : Hid (k * s ≤ 800000) := Nat.le_trans (Nat.mul_le_mul (Nat.le_trans (Nat.le_of_lt hkn) hn0.out) hs0.out.2) (by decide)
              obtain ⟨x, hx⟩ : ∃ x : Int, x = ((k * s : Nat) : Int) := ⟨_, rfl⟩
              obtain ⟨y, hy⟩ : ∃ y : Int, y = ((k % 7 : Nat) : Int) := ⟨_, rfl⟩
              have e1 : IntKind.i64.wrap ((k : Int) * (s : Int)) = x := by rw [hx, ← Int.natCast_mul]; exact IntWalk.i64_in _ (by have := hks.out; omega)
              have e2 : (k : Int).tmod 7 = y := by rw [Int.tmod_eq_emod_of_nonneg (by omega), hy]; omega
              have e3 : Hid (Pt.lg s (k + 1) = Pt.lg s k ++ [⟨x, [y]⟩]) := by show _ = _; rw [Pt.lg_succ, hx, hy]
              have HL : Hid ((Pt.lg s k).length + 1 ≤ 1099511627776) := by show _ ≤ _; rw [Pt.lg_length]; have := hn0.out; omega
              have HSZ := Lib.hid HB.out.size
              clear hx hy
              go_wp2_with (at_builtin; go_loud (refine wpList_pushP (w := wr.alloc (.cells #[.int .i64 y] 3)) rfl _ _ rfl w.heap.size (Nat.le_trans HSZ.out (by simp)) (.slice a6 k c6) (Pt.lg s k) vs x (.slice (some ⟨wr.heap.size, 0, none⟩) 1 1) [y] rfl (HO.out.keepB fun q _ hq => Go.Deep.blk_alloc_lt _ _ _ hq) (own_one wr _ HSZ.out y) (by rw [World.size_alloc]; rfl) HL.out ?_; intro v8 w8 hO8 hB8; have HO8 := Lib.hid hO8; have HB8 := Lib.hid ((HB.out.alloc HB.out.size _).trans hB8); clear hO8 hB8))
              rw [← e3.out] at HO8
              go_roundg (n - (k + 1))
              case rel => exact ⟨k + 1, _, by omega, rfl, by go_num, HO8.out, HB8.out⟩
              case measure => omega
            · obtain rfl : k = n := by omega
              have HP := Lib.hid HO.out.po
              have hC0 := Lib.hid HB.out.size
              clear HO
              go_wp2_with (go_at_call 19; refine (hNa.out _ _ HP.out).mono ?_; rintro e1 w2 ⟨p, rfl, hC2, hb2⟩; have HC2 := Lib.hid hC2; have HB2 := Lib.hid (HB.out.trans (hb2.mono HB.out.size)); clear hC2 hb2 hNa HP)
              have hbp : Hid (w.heap.size ≤ p) := Nat.le_trans hC0.out HC2.out.base
              obtain ⟨C, hCC⟩ : ∃ C, C = wr.heap.size := ⟨_, rfl⟩
              rw [← hCC] at HC2
              clear hCC hC0 HB
              go_loopg [11, 12] m (fun g' lv iv wx => ∃ (j Q : Nat) (t la : Int), j ≤ m ∧ g' = m - j ∧ iv = .int .i64 j ∧ lv = .int .i64 la ∧ Hid (la = ((Q * s : Nat) : Int) ∧ max t 0 = ((min k Q : Nat) : Int) ∧ Q ≤ 1048576) ∧ Hid (CurM wx C p (Pt.lg s k) t) ∧ Hid (Below w.heap.size w wx))
              case atStart => exact ⟨0, 0, -1, 0, Nat.zero_le _, rfl, rfl, rfl, by show _ ∧ _ ∧ _; omega, HC2, HB2⟩
              case round =>
                clear HC2 HB2
                obtain ⟨j, Q, t, la, hj, rfl, rfl, rfl, HQ, HC6, HB6⟩ := hrel
                by_cases hjm : j < m
                · have j2 : (j : Int) < (m : Int) := by omega
                  by_cases hj3 : j < 60
                  · have j3 : (j : Int) < 60 := by omega
                    obtain ⟨gS, oS, rfl, hgS, _, hcS⟩ := HS.out (by rw [← HM.out]; omega)
                    have c6 := (HB6.out.cell (p := ⟨gS, oS + j, none⟩) hgS).trans (hcS j (by rw [← HM.out]; exact hjm))
                    clear hcS
                    generalize S[j]'_ = x0 at c6
                    by_cases x1 : x0 < 0
                    · go_wp2_with fail
                      go_roundg (m - (j + 1))
                      case rel => exact ⟨j + 1, Q, t, la, by omega, rfl, by go_num, rfl, HQ, HC6, HB6⟩
                      case measure => omega
                    · by_cases x2 : 1048576 < x0
                      · go_wp2_with fail
                        go_roundg (m - (j + 1))
                        case rel => exact ⟨j + 1, Q, t, la, by omega, rfl, by go_num, rfl, HQ, HC6, HB6⟩
                        case measure => omega
                      · obtain ⟨g, rfl⟩ := Int.eq_ofNat_of_zero_le (show 0 ≤ x0 by omega)
                        have hg : Hid (g ≤ 1048576) := by show _ ≤ _; omega
                        obtain ⟨q, hq⟩ : ∃ q, q = (g + s - 1) / s := ⟨_, rfl⟩
                        have hql : Hid (q ≤ 1048576) := by
                          show _ ≤ _
                          rw [hq]
                          have a1 := hg.out
                          have a2 := hs0.out
                          refine Nat.le_trans (Nat.div_le_div_right (show g + s - 1 ≤ 1048576 * s from ?_)) (Nat.le_of_eq (Nat.mul_div_cancel _ a2.1))
                          have : 1048576 * 1 ≤ 1048576 * s := Nat.mul_le_mul_left _ a2.1
                          have a3 : 1048576 * s = 1048575 * s + s := by omega
                          have a4 : 1048575 * 1 ≤ 1048575 * s := Nat.mul_le_mul_left _ a2.1
                          omega
                        obtain ⟨Q', hQ'⟩ : ∃ Q', Q' = max Q q := ⟨_, rfl⟩
                        obtain ⟨r, hr⟩ : ∃ r, r = min k Q' := ⟨_, rfl⟩
                        have hQq : Hid (q * s ≤ 41943040 ∧ Q * s ≤ 41943040) := ⟨Nat.le_trans (Nat.mul_le_mul hql.out hs0.out.2) (by decide), Nat.le_trans (Nat.mul_le_mul HQ.out.2.2 hs0.out.2) (by decide)⟩
                        have hmx : Hid (max (Q * s) (q * s) = Q' * s) := by
                          show _ = _
                          rw [hQ']
                          rcases Nat.le_total Q q with h | h
                          · rw [Nat.max_eq_right (Nat.mul_le_mul_right s h), Nat.max_eq_right h]
                          · rw [Nat.max_eq_left (Nat.mul_le_mul_right s h), Nat.max_eq_left h]
                        obtain ⟨wq, hwq⟩ : ∃ wq : Int, wq = ((q * s : Nat) : Int) := ⟨_, rfl⟩
                        obtain ⟨wn, hwn⟩ : ∃ wn : Int, wn = ((Q' * s : Nat) : Int) := ⟨_, rfl⟩
                        obtain ⟨ns, hnse⟩ : ∃ ns : Int, ns = ((k * s : Nat) : Int) := ⟨_, rfl⟩
                        obtain ⟨z, hz⟩ : ∃ z : Int, z = ((Q' % 7 : Nat) : Int) := ⟨_, rfl⟩
                        have i1 : (0 : Int) ≤ (g : Int) := by omega
                        have f0 : ((s : Int) == 0) = false := by have := hs0.out; simp; omega
                        have f00 : ¬ s = 0 := by have := hs0.out; omega
                        have f1 : IntKind.i64.wrap ((g : Int) + (s : Int)) = (g : Int) + (s : Int) := IntWalk.i64_in _ (by have := hg.out; have := hs0.out; omega)
                        have f2 : IntKind.i64.wrap ((g : Int) + (s : Int) - 1) = (g : Int) + (s : Int) - 1 := IntWalk.i64_in _ (by have := hg.out; have := hs0.out; omega)
                        have f3 : ((g : Int) + (s : Int) - 1).tdiv (s : Int) = (q : Int) := by
                          have a1 := hs0.out
                          rw [Int.tdiv_eq_ediv_of_nonneg (by omega), hq, show (g : Int) + (s : Int) - 1 = ((g + s - 1 : Nat) : Int) by omega]
                          rfl
                        have f4 : IntKind.i64.wrap (q : Int) = (q : Int) := IntWalk.i64_in _ (by have := hql.out; omega)
                        have f5 : IntKind.i64.wrap ((q : Int) * (s : Int)) = wq := by rw [hwq, ← Int.natCast_mul]; exact IntWalk.i64_in _ (by have := hQq.out; omega)
                        have f6 : max la wq = wn := by have a1 := hmx.out; have a2 := HQ.out.1; rw [a2, hwq, hwn]; omega
                        have f7 : max la wn = wn := by rw [← f6]; omega
                        have f8 : IntKind.i64.wrap ((k : Int) * (s : Int)) = ns := by rw [hnse, ← Int.natCast_mul]; exact IntWalk.i64_in _ (by have := hns.out; omega)
                        have f9 : wn.tdiv (s : Int) = (Q' : Int) := by
                          rw [hwn, Int.tdiv_eq_ediv_of_nonneg (by omega), Int.natCast_mul, Int.mul_ediv_cancel _ (by have := hs0.out; omega)]
                        have hQl : Hid (Q' ≤ 1048576) := by show _ ≤ _; rw [hQ']; exact Nat.max_le.2 ⟨HQ.out.2.2, hql.out⟩
                        have f10 : IntKind.i64.wrap (Q' : Int) = (Q' : Int) := IntWalk.i64_in _ (by have := hQl.out; omega)
                        have f11 : (Q' : Int).tmod 7 = z := by rw [Int.tmod_eq_emod_of_nonneg (by omega), hz]; omega
                        have f12 : IntKind.i64.wrap z = z := IntWalk.i64_in _ (by omega)
                        have hb : Hid (decide (wn < ns) = decide (r < k)) := by
                          have a1 : Q' * s < k * s ↔ Q' < k := Nat.mul_lt_mul_right hs0.out.1
                          show _ = _
                          rw [decide_eq_decide, hwn, hnse, hr]
                          omega
                        have hA : Hid (Calls Try.prog 22 #[.pointer (some ⟨p, 0, none⟩), .int .i64 (g : Int)] wr fun e w' => e = .returned (.bool (decide (r < k))) ∧ CurM w' C p (Pt.lg s k) (r : Int) ∧ Below w.heap.size wr w') := by
                          have a1 : Pt.adv (Pt.lg s k) (g : Int) (min k Q) = r := by
                            rw [Pt.adv_long hs0.out.1 (fun i h => by rw [Pt.lg_get]) (by rw [Pt.lg_length]; exact Nat.min_le_left _ _), Pt.lg_length, ← hq, hr, hQ']
                            show max (min k Q) (min k q) = min k (max Q q)
                            omega
                          refine (advance_any wr C p (Pt.lg s k) t HC6.out (min k Q) HQ.out.2.1 (by rw [Pt.lg_length]; exact Nat.min_le_left _ _) (g : Int)).mono ?_
                          rintro e w' ⟨q1, q2, q3⟩
                          rw [a1] at q1 q2
                          rw [Pt.lg_length] at q1
                          exact ⟨q1, q2, q3.2.2 _ hbp.out⟩
                        have HRR : Hid (r = min k Q' ∧ wn = ((Q' * s : Nat) : Int) ∧ z = ((Q' % 7 : Nat) : Int)) := ⟨hr, hwn, hz⟩
                        have HW := Lib.hid f6
                        clear hq hQ' hr hwq hwn hnse hz hmx hQq hql hg
                        by_cases hrk : r < k
                        · rw [decide_eq_true hrk] at hA hb
                          have g1 : decide (wn < ns) = true := hb.out
                          have g2 : wn < ns := of_decide_eq_true hb.out
                          have hrQ : Hid (r = Q') := by show _ = _; have := HRR.out.1; omega
                          have hpo : Hid (∀ W, CurM W C p (Pt.lg s k) (r : Int) → Calls Try.prog 20 #[.pointer (some ⟨p, 0, none⟩)] W fun e w' => ∃ q c, e = .returned (.tuple #[.agg #[.int .i64 wn, .slice (some ⟨q, 0, none⟩) 1 c], .bool true]) ∧ q < w'.heap.size ∧ w'.cell? ⟨q, 0, none⟩ = some (.int .i64 z) ∧ Below W.heap.size W w') := fun W hW => by
                            refine (post_any W C p _ _ hW).mono ?_
                            rintro e w' ⟨hb, (⟨q, _⟩ | ⟨j', hj', va, q1, q2, q3⟩)⟩
                            · exact absurd ⟨by omega, by rw [Pt.lg_length]; omega⟩ q
                            · obtain rfl : r = j' := by omega
                              rw [Pt.lg_get] at q2 q3
                              obtain ⟨q, c, rfl, a1, a2⟩ := first_cell q3
                              refine ⟨q, c, ?_, a1, ?_, hb⟩
                              · rw [q2, HRR.out.2.1, hrQ.out]
                              · rw [a2, HRR.out.2.2, hrQ.out]
                          go_wp2_with (first
                            | (go_at_call 22; refine hA.out.mono ?_; rintro e1 w7 ⟨rfl, hC7, hb7⟩; have HC7 := Lib.hid hC7; have HB7 := Lib.hid (HB6.out.trans hb7); clear hC7 hb7 hA)
                            | (go_at_call 20; refine (hpo.out _ HC7.out).mono ?_; rintro e1 w8 ⟨qz, cz, rfl, hqz, hcz, hb8⟩; have HC8 := Lib.hid (HC7.out.below hb8); have HB8 := Lib.hid (HB7.out.trans (hb8.mono HB7.out.size)); have HQZ := Lib.hid hqz; have HCZ := Lib.hid hcz; clear hb8 hqz hcz hpo HC7 HB7))
                          have BA : Hid (Below w8.heap.size w8 (w8.alloc (.cells #[.int .i64 wn, .slice (some ⟨qz, 0, none⟩) 1 cz] 40))) := (Below.refl _ _).alloc (Nat.le_refl _) _
                          have z6 : (w8.alloc (.cells #[.int .i64 wn, .slice (some ⟨qz, 0, none⟩) 1 cz] 40)).heap[w8.heap.size]? = some (.cells #[.int .i64 wn, .slice (some ⟨qz, 0, none⟩) 1 cz] 40 (0, 0)) := Go.Deep.blk_alloc_new _ _
                          obtain ⟨w9, hw9⟩ : ∃ w9, w9 = w8.alloc (.cells #[.int .i64 wn, .slice (some ⟨qz, 0, none⟩) 1 cz] 40) := ⟨_, rfl⟩
                          obtain ⟨bx, hbx⟩ : ∃ bx, bx = w8.heap.size := ⟨_, rfl⟩
                          rw [← hw9] at z6 BA ⊢
                          rw [← hbx] at z6 ⊢
                          have y3 : w9.drew.cell? ⟨qz, 0, none⟩ = some (.int .i64 z) := (BA.out.cell (p := ⟨qz, 0, none⟩) HQZ.out).trans HCZ.out
                          have HC9 := Lib.hid (HC8.out.below BA.out)
                          have HB9 : Hid (Below w.heap.size w w9) := HB8.out.trans (BA.out.mono HB8.out.size)
                          clear hw9 hbx BA HQZ HCZ HC8 HB8
                          obtain ⟨y1, y2⟩ := po_boxd z6
                          clear z6
                          refine wp_region_held_drew (S := fun W => W.cell? ⟨bx, 0, none⟩ = some (.int .i64 wn) ∧ W.cell? ⟨bx, 1, none⟩ = some (.slice (some ⟨qz, 0, none⟩) 1 cz) ∧ W.cell? ⟨qz, 0, none⟩ = some (.int .i64 z)) (by kernel_rfl) ⟨y1, y2, y3⟩ (fun hHeld => ?_)
                          refine wpAnyH_take (i := 0) (fuel := 31) (oi := ⟨_, _, _, _, _, _⟩) (v := ?_) rfl (by kernel_rfl) (by kernel_rfl) (by kernel_rfl) (fun _ _ _ h => h) (Or.inl ⟨by rfl, ?_⟩) (by assumption) ?_
                          rotate_left
                          · intro w _
                            first | (go_simp; done) | (go_simp; with_reducible rfl)
                          try simp only [Act.put, List.setIfInBounds_toArray, List.set_cons_zero, List.set_cons_succ]
                          refine wpAnyH_take (i := 1) (fuel := 30) (oi := ⟨_, _, _, _, _, _⟩) (v := ?_) rfl (by kernel_rfl) (by kernel_rfl) (by kernel_rfl) (fun _ _ _ h => h) (Or.inl ⟨by rfl, ?_⟩) (by assumption) ?_
                          rotate_left
                          · intro w _
                            first | (go_simp; done) | (go_simp; with_reducible rfl)
                          try simp only [Act.put, List.setIfInBounds_toArray, List.set_cons_zero, List.set_cons_succ]
                          refine wpAnyH_take (i := 2) (fuel := 29) (oi := ⟨_, _, _, _, _, _⟩) (v := ?_) rfl (by kernel_rfl) (by kernel_rfl) (by kernel_rfl) (fun _ _ _ h => h) (Or.inl ⟨by rfl, ?_⟩) (by assumption) ?_
                          rotate_left
                          · intro w _
                            first | (go_simp; done) | (go_simp; with_reducible rfl)
                          try simp only [Act.put, List.setIfInBounds_toArray, List.set_cons_zero, List.set_cons_succ]
                          refine wpAnyH_take (i := 3) (fuel := 28) (oi := ⟨_, _, _, _, _, _⟩) (v := ?_) rfl (by kernel_rfl) (by kernel_rfl) (by kernel_rfl) (fun _ _ _ h => h) (Or.inl ⟨by rfl, ?_⟩) (by assumption) ?_
                          rotate_left
                          · intro w _
                            first | (go_simp; done) | (go_simp; with_reducible rfl)
                          try simp only [Act.put, List.setIfInBounds_toArray, List.set_cons_zero, List.set_cons_succ]
                          refine wpAnyH_take (i := 4) (fuel := 27) (oi := ⟨_, _, _, _, _, _⟩) (v := ?_) rfl (by kernel_rfl) (by kernel_rfl) (by kernel_rfl) (fun _ _ _ h => h) (Or.inl ⟨by rfl, ?_⟩) (by assumption) ?_
                          rotate_left
                          · intro w _
                            first | (go_simp; done) | (go_simp; with_reducible rfl)
                          try simp only [Act.put, List.setIfInBounds_toArray, List.set_cons_zero, List.set_cons_succ]
                          refine wpAnyH_take (i := 5) (fuel := 26) (oi := ⟨_, _, _, _, _, _⟩) (v := ?_) rfl (by kernel_rfl) (by kernel_rfl) (by kernel_rfl) (fun _ _ _ h => h) (Or.inl ⟨by rfl, ?_⟩) (by assumption) ?_
                          rotate_left
                          · intro w _
                            first | (go_simp; done) | (go_simp; with_reducible rfl)
                          try simp only [Act.put, List.setIfInBounds_toArray, List.set_cons_zero, List.set_cons_succ]
                          refine wpAnyH_take (i := 6) (fuel := 25) (oi := ⟨_, _, _, _, _, _⟩) (v := ?_) rfl (by kernel_rfl) (by kernel_rfl) (by kernel_rfl) (fun _ _ _ h => h) (Or.inl ⟨by rfl, ?_⟩) (by assumption) ?_
                          rotate_left
                          · intro w _
                            first | (go_simp; done) | (go_simp; with_reducible rfl)
                          try simp only [Act.put, List.setIfInBounds_toArray, List.set_cons_zero, List.set_cons_succ]
                          refine wpAnyH_take (i := 7) (fuel := 24) (oi := ⟨_, _, _, _, _, _⟩) (v := ?_) rfl (by kernel_rfl) (by kernel_rfl) (by kernel_rfl) (fun _ _ _ h => h) (Or.inl ⟨by rfl, ?_⟩) (by assumption) ?_
                          rotate_left
                          · intro w _
                            first | (go_simp; done) | (go_simp; with_reducible rfl)
                          try simp only [Act.put, List.setIfInBounds_toArray, List.set_cons_zero, List.set_cons_succ]
                          refine wpAnyH_take (i := 8) (fuel := 23) (oi := ⟨_, _, _, _, _, _⟩) (v := ?_) rfl (by kernel_rfl) (by kernel_rfl) (by kernel_rfl) (fun _ _ _ h => h) (Or.inl ⟨by rfl, ?_⟩) (by assumption) ?_
                          rotate_left
                          · intro w _
                            first | (go_simp; done) | (go_simp; with_reducible rfl)
                          try simp only [Act.put, List.setIfInBounds_toArray, List.set_cons_zero, List.set_cons_succ]
                          refine wpAnyH_take (i := 9) (fuel := 22) (oi := ⟨_, _, _, _, _, _⟩) (v := ?_) rfl (by kernel_rfl) (by kernel_rfl) (by kernel_rfl) (fun _ _ _ h => h) (Or.inl ⟨by rfl, ?_⟩) (by assumption) ?_
                          rotate_left
                          · intro w _
                            first | (go_simp; done) | (go_simp; with_reducible rfl)
                          try simp only [Act.put, List.setIfInBounds_toArray, List.set_cons_zero, List.set_cons_succ]
                          refine wpAnyH_take (i := 10) (fuel := 21) (oi := ⟨_, _, _, _, _, _⟩) (v := ?_) rfl (by kernel_rfl) (by kernel_rfl) (by kernel_rfl) (fun _ _ _ h => h) (Or.inl ⟨by rfl, ?_⟩) (by assumption) ?_
                          rotate_left
                          · intro w _
                            first | (go_simp; done) | (go_simp; with_reducible rfl)
                          try simp only [Act.put, List.setIfInBounds_toArray, List.set_cons_zero, List.set_cons_succ]
                          refine wpAnyH_take (i := 11) (fuel := 20) (oi := ⟨_, _, _, _, _, _⟩) (v := ?_) rfl (by kernel_rfl) (by kernel_rfl) (by kernel_rfl) (fun _ _ _ h => h) (Or.inl ⟨by rfl, ?_⟩) (by assumption) ?_
                          rotate_left
                          · intro w _
                            first | (go_simp; done) | (go_simp; with_reducible rfl)
                          try simp only [Act.put, List.setIfInBounds_toArray, List.set_cons_zero, List.set_cons_succ]
                          refine wpAnyH_take (i := 12) (fuel := 19) (oi := ⟨_, _, _, _, _, _⟩) (v := ?_) rfl (by kernel_rfl) (by kernel_rfl) (by kernel_rfl) (fun _ _ _ h => h) (Or.inl ⟨by rfl, ?_⟩) (by assumption) ?_
                          rotate_left
                          · intro w _
                            first | (go_simp; done) | (go_simp; with_reducible rfl)
                          try simp only [Act.put, List.setIfInBounds_toArray, List.set_cons_zero, List.set_cons_succ]
                          refine wpAnyH_take (i := 13) (fuel := 18) (oi := ⟨_, _, _, _, _, _⟩) (v := ?_) rfl (by kernel_rfl) (by kernel_rfl) (by kernel_rfl) (fun _ _ _ h => h) (Or.inl ⟨by rfl, ?_⟩) (by assumption) ?_
                          rotate_left
                          · intro w _
                            first | (go_simp; done) | (go_simp; with_reducible rfl)
                          try simp only [Act.put, List.setIfInBounds_toArray, List.set_cons_zero, List.set_cons_succ]
                          refine wpAnyH_take (i := 14) (fuel := 17) (oi := ⟨_, _, _, _, _, _⟩) (v := ?_) rfl (by kernel_rfl) (by kernel_rfl) (by kernel_rfl) (fun _ _ _ h => h) (Or.inl ⟨by rfl, ?_⟩) (by assumption) ?_
                          rotate_left
                          · intro w _
                            first | (go_simp; done) | (go_simp; with_reducible rfl)
                          try simp only [Act.put, List.setIfInBounds_toArray, List.set_cons_zero, List.set_cons_succ]
                          refine wpAnyH_take (i := 15) (fuel := 16) (oi := ⟨_, _, _, _, _, _⟩) (v := ?_) rfl (by kernel_rfl) (by kernel_rfl) (by kernel_rfl) (fun _ _ _ h => h) (Or.inl ⟨by rfl, ?_⟩) (by assumption) ?_
                          rotate_left
                          · intro w _
                            first | (go_simp; done) | (go_simp; with_reducible rfl)
                          try simp only [Act.put, List.setIfInBounds_toArray, List.set_cons_zero, List.set_cons_succ]
                          refine wpAnyH_take (i := 16) (fuel := 15) (oi := ⟨_, _, _, _, _, _⟩) (v := ?_) rfl (by kernel_rfl) (by kernel_rfl) (by kernel_rfl) (fun _ _ _ h => h) (Or.inl ⟨by rfl, ?_⟩) (by assumption) ?_
                          rotate_left
                          · intro w hSw
                            obtain ⟨s1, s2, s3⟩ := hSw
                            first | (go_simp; done) | (go_simp; with_reducible rfl)
                          try simp only [Act.put, List.setIfInBounds_toArray, List.set_cons_zero, List.set_cons_succ]
                          refine wpAnyH_take (i := 17) (fuel := 14) (oi := ⟨_, _, _, _, _, _⟩) (v := ?_) rfl (by kernel_rfl) (by kernel_rfl) (by kernel_rfl) (fun _ _ _ h => h) (Or.inl ⟨by rfl, ?_⟩) (by assumption) ?_
                          rotate_left
                          · intro w _
                            first | (go_simp; done) | (go_simp; with_reducible rfl)
                          try simp only [Act.put, List.setIfInBounds_toArray, List.set_cons_zero, List.set_cons_succ]
                          refine wpAnyH_take (i := 18) (fuel := 13) (oi := ⟨_, _, _, _, _, _⟩) (v := ?_) rfl (by kernel_rfl) (by kernel_rfl) (by kernel_rfl) (fun _ _ _ h => h) (Or.inl ⟨by rfl, ?_⟩) (by assumption) ?_
                          rotate_left
                          · intro w _
                            first | (go_simp; done) | (go_simp; with_reducible rfl)
                          try simp only [Act.put, List.setIfInBounds_toArray, List.set_cons_zero, List.set_cons_succ]
                          refine wpAnyH_take (i := 19) (fuel := 12) (oi := ⟨_, _, _, _, _, _⟩) (v := ?_) rfl (by kernel_rfl) (by kernel_rfl) (by kernel_rfl) (fun _ _ _ h => h) (Or.inl ⟨by rfl, ?_⟩) (by assumption) ?_
                          rotate_left
                          · intro w _
                            first | (go_simp; done) | (go_simp; with_reducible rfl)
                          try simp only [Act.put, List.setIfInBounds_toArray, List.set_cons_zero, List.set_cons_succ]
                          refine wpAnyH_take (i := 20) (fuel := 11) (oi := ⟨_, _, _, _, _, _⟩) (v := ?_) rfl (by kernel_rfl) (by kernel_rfl) (by kernel_rfl) (fun _ _ _ h => h) (Or.inl ⟨by rfl, ?_⟩) (by assumption) ?_
                          rotate_left
                          · intro w _
                            first | (go_simp; done) | (go_simp; with_reducible rfl)
                          try simp only [Act.put, List.setIfInBounds_toArray, List.set_cons_zero, List.set_cons_succ]
                          refine wpAnyH_take (i := 21) (fuel := 10) (oi := ⟨_, _, _, _, _, _⟩) (v := ?_) rfl (by kernel_rfl) (by kernel_rfl) (by kernel_rfl) (fun _ _ _ h => h) (Or.inl ⟨by rfl, ?_⟩) (by assumption) ?_
                          rotate_left
                          · intro w hSw
                            obtain ⟨s1, s2, s3⟩ := hSw
                            first | (go_simp; done) | (go_simp; with_reducible rfl)
                          try simp only [Act.put, List.setIfInBounds_toArray, List.set_cons_zero, List.set_cons_succ]
                          refine wpAnyH_take (i := 22) (fuel := 9) (oi := ⟨_, _, _, _, _, _⟩) (v := ?_) rfl (by kernel_rfl) (by kernel_rfl) (by kernel_rfl) (fun _ _ _ h => h) (Or.inl ⟨by rfl, ?_⟩) (by assumption) ?_
                          rotate_left
                          · intro w _
                            first | (go_simp; done) | (go_simp; with_reducible rfl)
                          try simp only [Act.put, List.setIfInBounds_toArray, List.set_cons_zero, List.set_cons_succ]
                          refine wpAnyH_take (i := 23) (fuel := 8) (oi := ⟨_, _, _, _, _, _⟩) (v := ?_) rfl (by kernel_rfl) (by kernel_rfl) (by kernel_rfl) (fun _ _ _ h => h) (Or.inl ⟨by rfl, ?_⟩) (by assumption) ?_
                          rotate_left
                          · intro w hSw
                            obtain ⟨s1, s2, s3⟩ := hSw
                            first | (go_simp; done) | (go_simp; with_reducible rfl)
                          try simp only [Act.put, List.setIfInBounds_toArray, List.set_cons_zero, List.set_cons_succ]
                          refine wpAnyH_take (i := 24) (fuel := 7) (oi := ⟨_, _, _, _, _, _⟩) (v := ?_) rfl (by kernel_rfl) (by kernel_rfl) (by kernel_rfl) (fun _ _ _ h => h) (Or.inl ⟨by rfl, ?_⟩) (by assumption) ?_
                          rotate_left
                          · intro w _
                            first | (go_simp; done) | (go_simp; with_reducible rfl)
                          try simp only [Act.put, List.setIfInBounds_toArray, List.set_cons_zero, List.set_cons_succ]
                          refine wpAnyH_take (i := 25) (fuel := 6) (oi := ⟨_, _, _, _, _, _⟩) (v := ?_) rfl (by kernel_rfl) (by kernel_rfl) (by kernel_rfl) (fun _ _ _ h => h) (Or.inl ⟨by rfl, ?_⟩) (by assumption) ?_
                          rotate_left
                          · intro w _
                            first | (go_simp; done) | (go_simp; with_reducible rfl)
                          try simp only [Act.put, List.setIfInBounds_toArray, List.set_cons_zero, List.set_cons_succ]
                          refine wpAnyH_take (i := 26) (fuel := 5) (oi := ⟨_, _, _, _, _, _⟩) (v := ?_) rfl (by kernel_rfl) (by kernel_rfl) (by kernel_rfl) (fun _ _ _ h => h) (Or.inl ⟨by rfl, ?_⟩) (by assumption) ?_
                          rotate_left
                          · intro w _
                            first | (go_simp; done) | (go_simp; with_reducible rfl)
                          try simp only [Act.put, List.setIfInBounds_toArray, List.set_cons_zero, List.set_cons_succ]
                          refine wpAnyH_take (i := 27) (fuel := 4) (oi := ⟨_, _, _, _, _, _⟩) (v := ?_) rfl (by kernel_rfl) (by kernel_rfl) (by kernel_rfl) (fun _ _ _ h => h) (Or.inl ⟨by rfl, ?_⟩) (by assumption) ?_
                          rotate_left
                          · intro w _
                            first | (go_simp; done) | (go_simp; with_reducible rfl)
                          try simp only [Act.put, List.setIfInBounds_toArray, List.set_cons_zero, List.set_cons_succ]
                          refine wpAnyH_take (i := 28) (fuel := 3) (oi := ⟨_, _, _, _, _, _⟩) (v := ?_) rfl (by kernel_rfl) (by kernel_rfl) (by kernel_rfl) (fun _ _ _ h => h) (Or.inl ⟨by rfl, ?_⟩) (by assumption) ?_
                          rotate_left
                          · intro w _
                            first | (go_simp; done) | (go_simp; with_reducible rfl)
                          try simp only [Act.put, List.setIfInBounds_toArray, List.set_cons_zero, List.set_cons_succ]
                          refine wpAnyH_take (i := 29) (fuel := 2) (oi := ⟨_, _, _, _, _, _⟩) (v := ?_) rfl (by kernel_rfl) (by kernel_rfl) (by kernel_rfl) (fun _ _ _ h => h) (Or.inl ⟨by rfl, ?_⟩) (by assumption) ?_
                          rotate_left
                          · intro w _
                            first | (go_simp; done) | (go_simp; with_reducible rfl)
                          try simp only [Act.put, List.setIfInBounds_toArray, List.set_cons_zero, List.set_cons_succ]
                          refine wpAnyH_take (i := 30) (fuel := 1) (oi := ⟨_, _, _, _, _, _⟩) (v := ?_) rfl (by kernel_rfl) (by kernel_rfl) (by kernel_rfl) (fun _ _ _ h => h) (Or.inl ⟨by rfl, ?_⟩) (by assumption) ?_
                          rotate_left
                          · intro w _
                            first | (go_simp; done) | (go_simp; with_reducible rfl)
                          try simp only [Act.put, List.setIfInBounds_toArray, List.set_cons_zero, List.set_cons_succ]
                          refine wpAnyH_take (i := 31) (fuel := 0) (oi := ⟨_, _, _, _, _, _⟩) (v := ?_) rfl (by kernel_rfl) (by kernel_rfl) (by kernel_rfl) (fun _ _ _ h => h) (Or.inl ⟨by rfl, ?_⟩) (by assumption) ?_
                          rotate_left
                          · intro w _
                            first | (go_simp; done) | (go_simp; with_reducible rfl)
                          try simp only [Act.put, List.setIfInBounds_toArray, List.set_cons_zero, List.set_cons_succ]
                          refine wpAnyH_done (by kernel_rfl) ?_ _
                          clear hHeld y1 y2 y3
                          go_wp2_with fail
                          go_roundg (m - (j + 1))
                          case rel => exact ⟨j + 1, Q', (r : Int), wn, by omega, rfl, by go_num, rfl, ⟨HRR.out.2.1, by rw [HRR.out.1]; omega, hQl.out⟩, HC9.out.below (Below.refl _ _).drew, HB9.out.drew⟩
                          case measure => omega
                        · rw [decide_eq_false hrk] at hA hb
                          have g1 : decide (wn < ns) = false := hb.out
                          have g2 : ¬ wn < ns := of_decide_eq_false hb.out
                          have hpo : Hid (∀ W, CurM W C p (Pt.lg s k) (r : Int) → Calls Try.prog 20 #[.pointer (some ⟨p, 0, none⟩)] W fun e w' => e = .returned (.tuple #[.agg #[.int .i64 0, .slice none 0 0], .bool false]) ∧ Below W.heap.size W w') := fun W hW => by
                            refine (post_any W C p _ _ hW).mono ?_
                            rintro e w' ⟨hb, (⟨_, q⟩ | ⟨j', hj', va, q1, q2, q3⟩)⟩
                            · exact ⟨q, hb⟩
                            · rw [Pt.lg_length] at hj'; omega
                          go_wp2_with (first
                            | (go_at_call 22; refine hA.out.mono ?_; rintro e1 w7 ⟨rfl, hC7, hb7⟩; have HC7 := Lib.hid hC7; have HB7 := Lib.hid (HB6.out.trans hb7); clear hC7 hb7 hA)
                            | (go_at_call 20; refine (hpo.out _ HC7.out).mono ?_; rintro e1 w8 ⟨rfl, hb8⟩; have HC8 := Lib.hid (HC7.out.below hb8); have HB8 := Lib.hid (HB7.out.trans (hb8.mono HB7.out.size)); clear hb8 hpo HC7 HB7))
                          obtain ⟨w9, hw9⟩ : ∃ w9, w9 = w8.alloc (.cells #[.int .i64 0, .slice none 0 0] 40) := ⟨_, rfl⟩
                          obtain ⟨bx, hbx⟩ : ∃ bx, bx = w8.heap.size := ⟨_, rfl⟩
                          have HC9 : Hid (CurM w9 C p (Pt.lg s k) (r : Int)) := by show CurM _ _ _ _ _; rw [hw9]; exact HC8.out.below ((Below.refl _ _).alloc (Nat.le_refl _) _)
                          have HB9 : Hid (Below w.heap.size w w9) := by show Below _ _ _; rw [hw9]; exact HB8.out.alloc HB8.out.size _
                          rw [← hw9, ← hbx]
                          clear hw9 hbx HC8 HB8
                          refine wp_region_held_drew (S := fun W => True) (by kernel_rfl) trivial (fun hHeld => ?_)
                          refine wpAnyH_take (i := 0) (fuel := 31) (oi := ⟨_, _, _, _, _, _⟩) (v := ?_) rfl (by kernel_rfl) (by kernel_rfl) (by kernel_rfl) (fun _ _ _ h => h) (Or.inl ⟨by rfl, ?_⟩) (by assumption) ?_
                          rotate_left
                          · intro w _
                            first | (go_simp; done) | (go_simp; with_reducible rfl)
                          try simp only [Act.put, List.setIfInBounds_toArray, List.set_cons_zero, List.set_cons_succ]
                          refine wpAnyH_take (i := 1) (fuel := 30) (oi := ⟨_, _, _, _, _, _⟩) (v := ?_) rfl (by kernel_rfl) (by kernel_rfl) (by kernel_rfl) (fun _ _ _ h => h) (Or.inl ⟨by rfl, ?_⟩) (by assumption) ?_
                          rotate_left
                          · intro w _
                            first | (go_simp; done) | (go_simp; with_reducible rfl)
                          try simp only [Act.put, List.setIfInBounds_toArray, List.set_cons_zero, List.set_cons_succ]
                          refine wpAnyH_take (i := 2) (fuel := 29) (oi := ⟨_, _, _, _, _, _⟩) (v := ?_) rfl (by kernel_rfl) (by kernel_rfl) (by kernel_rfl) (fun _ _ _ h => h) (Or.inl ⟨by rfl, ?_⟩) (by assumption) ?_
                          rotate_left
                          · intro w _
                            first | (go_simp; done) | (go_simp; with_reducible rfl)
                          try simp only [Act.put, List.setIfInBounds_toArray, List.set_cons_zero, List.set_cons_succ]
                          refine wpAnyH_take (i := 3) (fuel := 28) (oi := ⟨_, _, _, _, _, _⟩) (v := ?_) rfl (by kernel_rfl) (by kernel_rfl) (by kernel_rfl) (fun _ _ _ h => h) (Or.inl ⟨by rfl, ?_⟩) (by assumption) ?_
                          rotate_left
                          · intro w _
                            first | (go_simp; done) | (go_simp; with_reducible rfl)
                          try simp only [Act.put, List.setIfInBounds_toArray, List.set_cons_zero, List.set_cons_succ]
                          refine wpAnyH_take (i := 4) (fuel := 27) (oi := ⟨_, _, _, _, _, _⟩) (v := ?_) rfl (by kernel_rfl) (by kernel_rfl) (by kernel_rfl) (fun _ _ _ h => h) (Or.inl ⟨by rfl, ?_⟩) (by assumption) ?_
                          rotate_left
                          · intro w _
                            first | (go_simp; done) | (go_simp; with_reducible rfl)
                          try simp only [Act.put, List.setIfInBounds_toArray, List.set_cons_zero, List.set_cons_succ]
                          refine wpAnyH_take (i := 5) (fuel := 26) (oi := ⟨_, _, _, _, _, _⟩) (v := ?_) rfl (by kernel_rfl) (by kernel_rfl) (by kernel_rfl) (fun _ _ _ h => h) (Or.inl ⟨by rfl, ?_⟩) (by assumption) ?_
                          rotate_left
                          · intro w _
                            first | (go_simp; done) | (go_simp; with_reducible rfl)
                          try simp only [Act.put, List.setIfInBounds_toArray, List.set_cons_zero, List.set_cons_succ]
                          refine wpAnyH_take (i := 6) (fuel := 25) (oi := ⟨_, _, _, _, _, _⟩) (v := ?_) rfl (by kernel_rfl) (by kernel_rfl) (by kernel_rfl) (fun _ _ _ h => h) (Or.inl ⟨by rfl, ?_⟩) (by assumption) ?_
                          rotate_left
                          · intro w _
                            first | (go_simp; done) | (go_simp; with_reducible rfl)
                          try simp only [Act.put, List.setIfInBounds_toArray, List.set_cons_zero, List.set_cons_succ]
                          refine wpAnyH_take (i := 7) (fuel := 24) (oi := ⟨_, _, _, _, _, _⟩) (v := ?_) rfl (by kernel_rfl) (by kernel_rfl) (by kernel_rfl) (fun _ _ _ h => h) (Or.inl ⟨by rfl, ?_⟩) (by assumption) ?_
                          rotate_left
                          · intro w _
                            first | (go_simp; done) | (go_simp; with_reducible rfl)
                          try simp only [Act.put, List.setIfInBounds_toArray, List.set_cons_zero, List.set_cons_succ]
                          refine wpAnyH_take (i := 8) (fuel := 23) (oi := ⟨_, _, _, _, _, _⟩) (v := ?_) rfl (by kernel_rfl) (by kernel_rfl) (by kernel_rfl) (fun _ _ _ h => h) (Or.inl ⟨by rfl, ?_⟩) (by assumption) ?_
                          rotate_left
                          · intro w _
                            first | (go_simp; done) | (go_simp; with_reducible rfl)
                          try simp only [Act.put, List.setIfInBounds_toArray, List.set_cons_zero, List.set_cons_succ]
                          refine wpAnyH_take (i := 9) (fuel := 22) (oi := ⟨_, _, _, _, _, _⟩) (v := ?_) rfl (by kernel_rfl) (by kernel_rfl) (by kernel_rfl) (fun _ _ _ h => h) (Or.inl ⟨by rfl, ?_⟩) (by assumption) ?_
                          rotate_left
                          · intro w _
                            first | (go_simp; done) | (go_simp; with_reducible rfl)
                          try simp only [Act.put, List.setIfInBounds_toArray, List.set_cons_zero, List.set_cons_succ]
                          refine wpAnyH_take (i := 10) (fuel := 21) (oi := ⟨_, _, _, _, _, _⟩) (v := ?_) rfl (by kernel_rfl) (by kernel_rfl) (by kernel_rfl) (fun _ _ _ h => h) (Or.inl ⟨by rfl, ?_⟩) (by assumption) ?_
                          rotate_left
                          · intro w _
                            first | (go_simp; done) | (go_simp; with_reducible rfl)
                          try simp only [Act.put, List.setIfInBounds_toArray, List.set_cons_zero, List.set_cons_succ]
                          refine wpAnyH_take (i := 11) (fuel := 20) (oi := ⟨_, _, _, _, _, _⟩) (v := ?_) rfl (by kernel_rfl) (by kernel_rfl) (by kernel_rfl) (fun _ _ _ h => h) (Or.inl ⟨by rfl, ?_⟩) (by assumption) ?_
                          rotate_left
                          · intro w _
                            first | (go_simp; done) | (go_simp; with_reducible rfl)
                          try simp only [Act.put, List.setIfInBounds_toArray, List.set_cons_zero, List.set_cons_succ]
                          refine wpAnyH_take (i := 12) (fuel := 19) (oi := ⟨_, _, _, _, _, _⟩) (v := ?_) rfl (by kernel_rfl) (by kernel_rfl) (by kernel_rfl) (fun _ _ _ h => h) (Or.inl ⟨by rfl, ?_⟩) (by assumption) ?_
                          rotate_left
                          · intro w _
                            first | (go_simp; done) | (go_simp; with_reducible rfl)
                          try simp only [Act.put, List.setIfInBounds_toArray, List.set_cons_zero, List.set_cons_succ]
                          refine wpAnyH_take (i := 13) (fuel := 18) (oi := ⟨_, _, _, _, _, _⟩) (v := ?_) rfl (by kernel_rfl) (by kernel_rfl) (by kernel_rfl) (fun _ _ _ h => h) (Or.inl ⟨by rfl, ?_⟩) (by assumption) ?_
                          rotate_left
                          · intro w _
                            first | (go_simp; done) | (go_simp; with_reducible rfl)
                          try simp only [Act.put, List.setIfInBounds_toArray, List.set_cons_zero, List.set_cons_succ]
                          refine wpAnyH_take (i := 14) (fuel := 17) (oi := ⟨_, _, _, _, _, _⟩) (v := ?_) rfl (by kernel_rfl) (by kernel_rfl) (by kernel_rfl) (fun _ _ _ h => h) (Or.inl ⟨by rfl, ?_⟩) (by assumption) ?_
                          rotate_left
                          · intro w _
                            first | (go_simp; done) | (go_simp; with_reducible rfl)
                          try simp only [Act.put, List.setIfInBounds_toArray, List.set_cons_zero, List.set_cons_succ]
                          refine wpAnyH_take (i := 15) (fuel := 16) (oi := ⟨_, _, _, _, _, _⟩) (v := undef) rfl (by kernel_rfl) (by kernel_rfl) (by kernel_rfl) (fun _ _ _ h => h) (Or.inr ⟨by rfl, rfl⟩) (by assumption) ?_
                          try simp only [Act.put, List.setIfInBounds_toArray, List.set_cons_zero, List.set_cons_succ]
                          refine wpAnyH_take (i := 16) (fuel := 15) (oi := ⟨_, _, _, _, _, _⟩) (v := undef) rfl (by kernel_rfl) (by kernel_rfl) (by kernel_rfl) (fun _ _ _ h => h) (Or.inr ⟨by rfl, rfl⟩) (by assumption) ?_
                          try simp only [Act.put, List.setIfInBounds_toArray, List.set_cons_zero, List.set_cons_succ]
                          refine wpAnyH_take (i := 17) (fuel := 14) (oi := ⟨_, _, _, _, _, _⟩) (v := undef) rfl (by kernel_rfl) (by kernel_rfl) (by kernel_rfl) (fun _ _ _ h => h) (Or.inr ⟨by rfl, rfl⟩) (by assumption) ?_
                          try simp only [Act.put, List.setIfInBounds_toArray, List.set_cons_zero, List.set_cons_succ]
                          refine wpAnyH_take (i := 18) (fuel := 13) (oi := ⟨_, _, _, _, _, _⟩) (v := undef) rfl (by kernel_rfl) (by kernel_rfl) (by kernel_rfl) (fun _ _ _ h => h) (Or.inr ⟨by rfl, rfl⟩) (by assumption) ?_
                          try simp only [Act.put, List.setIfInBounds_toArray, List.set_cons_zero, List.set_cons_succ]
                          refine wpAnyH_take (i := 19) (fuel := 12) (oi := ⟨_, _, _, _, _, _⟩) (v := undef) rfl (by kernel_rfl) (by kernel_rfl) (by kernel_rfl) (fun _ _ _ h => h) (Or.inr ⟨by rfl, rfl⟩) (by assumption) ?_
                          try simp only [Act.put, List.setIfInBounds_toArray, List.set_cons_zero, List.set_cons_succ]
                          refine wpAnyH_take (i := 20) (fuel := 11) (oi := ⟨_, _, _, _, _, _⟩) (v := undef) rfl (by kernel_rfl) (by kernel_rfl) (by kernel_rfl) (fun _ _ _ h => h) (Or.inr ⟨by rfl, rfl⟩) (by assumption) ?_
                          try simp only [Act.put, List.setIfInBounds_toArray, List.set_cons_zero, List.set_cons_succ]
                          refine wpAnyH_take (i := 21) (fuel := 10) (oi := ⟨_, _, _, _, _, _⟩) (v := undef) rfl (by kernel_rfl) (by kernel_rfl) (by kernel_rfl) (fun _ _ _ h => h) (Or.inr ⟨by rfl, rfl⟩) (by assumption) ?_
                          try simp only [Act.put, List.setIfInBounds_toArray, List.set_cons_zero, List.set_cons_succ]
                          refine wpAnyH_take (i := 22) (fuel := 9) (oi := ⟨_, _, _, _, _, _⟩) (v := undef) rfl (by kernel_rfl) (by kernel_rfl) (by kernel_rfl) (fun _ _ _ h => h) (Or.inr ⟨by rfl, rfl⟩) (by assumption) ?_
                          try simp only [Act.put, List.setIfInBounds_toArray, List.set_cons_zero, List.set_cons_succ]
                          refine wpAnyH_take (i := 23) (fuel := 8) (oi := ⟨_, _, _, _, _, _⟩) (v := undef) rfl (by kernel_rfl) (by kernel_rfl) (by kernel_rfl) (fun _ _ _ h => h) (Or.inr ⟨by rfl, rfl⟩) (by assumption) ?_
                          try simp only [Act.put, List.setIfInBounds_toArray, List.set_cons_zero, List.set_cons_succ]
                          refine wpAnyH_take (i := 24) (fuel := 7) (oi := ⟨_, _, _, _, _, _⟩) (v := undef) rfl (by kernel_rfl) (by kernel_rfl) (by kernel_rfl) (fun _ _ _ h => h) (Or.inr ⟨by rfl, rfl⟩) (by assumption) ?_
                          try simp only [Act.put, List.setIfInBounds_toArray, List.set_cons_zero, List.set_cons_succ]
                          refine wpAnyH_take (i := 25) (fuel := 6) (oi := ⟨_, _, _, _, _, _⟩) (v := undef) rfl (by kernel_rfl) (by kernel_rfl) (by kernel_rfl) (fun _ _ _ h => h) (Or.inr ⟨by rfl, rfl⟩) (by assumption) ?_
                          try simp only [Act.put, List.setIfInBounds_toArray, List.set_cons_zero, List.set_cons_succ]
                          refine wpAnyH_take (i := 26) (fuel := 5) (oi := ⟨_, _, _, _, _, _⟩) (v := undef) rfl (by kernel_rfl) (by kernel_rfl) (by kernel_rfl) (fun _ _ _ h => h) (Or.inr ⟨by rfl, rfl⟩) (by assumption) ?_
                          try simp only [Act.put, List.setIfInBounds_toArray, List.set_cons_zero, List.set_cons_succ]
                          refine wpAnyH_take (i := 27) (fuel := 4) (oi := ⟨_, _, _, _, _, _⟩) (v := undef) rfl (by kernel_rfl) (by kernel_rfl) (by kernel_rfl) (fun _ _ _ h => h) (Or.inr ⟨by rfl, rfl⟩) (by assumption) ?_
                          try simp only [Act.put, List.setIfInBounds_toArray, List.set_cons_zero, List.set_cons_succ]
                          refine wpAnyH_take (i := 28) (fuel := 3) (oi := ⟨_, _, _, _, _, _⟩) (v := undef) rfl (by kernel_rfl) (by kernel_rfl) (by kernel_rfl) (fun _ _ _ h => h) (Or.inr ⟨by rfl, rfl⟩) (by assumption) ?_
                          try simp only [Act.put, List.setIfInBounds_toArray, List.set_cons_zero, List.set_cons_succ]
                          refine wpAnyH_take (i := 29) (fuel := 2) (oi := ⟨_, _, _, _, _, _⟩) (v := undef) rfl (by kernel_rfl) (by kernel_rfl) (by kernel_rfl) (fun _ _ _ h => h) (Or.inr ⟨by rfl, rfl⟩) (by assumption) ?_
                          try simp only [Act.put, List.setIfInBounds_toArray, List.set_cons_zero, List.set_cons_succ]
                          refine wpAnyH_take (i := 30) (fuel := 1) (oi := ⟨_, _, _, _, _, _⟩) (v := ?_) rfl (by kernel_rfl) (by kernel_rfl) (by kernel_rfl) (fun _ _ _ h => h) (Or.inl ⟨by rfl, ?_⟩) (by assumption) ?_
                          rotate_left
                          · intro w _
                            first | (go_simp; done) | (go_simp; with_reducible rfl)
                          try simp only [Act.put, List.setIfInBounds_toArray, List.set_cons_zero, List.set_cons_succ]
                          refine wpAnyH_take (i := 31) (fuel := 0) (oi := ⟨_, _, _, _, _, _⟩) (v := ?_) rfl (by kernel_rfl) (by kernel_rfl) (by kernel_rfl) (fun _ _ _ h => h) (Or.inl ⟨by rfl, ?_⟩) (by assumption) ?_
                          rotate_left
                          · intro w _
                            first | (go_simp; done) | (go_simp; with_reducible rfl)
                          try simp only [Act.put, List.setIfInBounds_toArray, List.set_cons_zero, List.set_cons_succ]
                          refine wpAnyH_done (by kernel_rfl) ?_ _
                          clear hHeld
                          go_wp2_with fail
                          go_roundg (m - (j + 1))
                          case rel => exact ⟨j + 1, Q', (r : Int), wn, by omega, rfl, by go_num, rfl, ⟨HRR.out.2.1, by rw [HRR.out.1]; omega, hQl.out⟩, HC9.out.below (Below.refl _ _).drew, HB9.out.drew⟩
                          case measure => omega
                  · have j3 : ¬ (j : Int) < 60 := by omega
                    have j4 : j < m := hjm
                    go_wp2_with fail
                    go_ret
                    exact ⟨rfl, HB6.out⟩
                · have j2 : ¬ (j : Int) < (m : Int) := by omega
                  go_wp2_with fail
                  go_ret
                  exact ⟨rfl, HB6.out⟩
end Go.Proofs.Ytokdjaljeckghaa
