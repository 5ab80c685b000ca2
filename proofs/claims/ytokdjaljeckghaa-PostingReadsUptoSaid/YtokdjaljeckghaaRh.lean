/-
  All bytes are read or refused, into new memory each time: the walk of the statement.
-/
import Derived.Test.YtokdjaljeckghaaRg
import Derived.Test.YtokdjaljeckghaaPs
import Derived.ArgAppend
namespace Go.Proofs.Ytokdjaljeckghaa
open Go.RowKit
namespace Pt
theorem mk_bad (a b c : List Nat) (h : (mk a b c).2 ≠ 0) : (mk a b c).1 = [] := by
  unfold mk at *
  split at h
  · rename_i q
    rw [if_pos q]
  · rename_i q
    rw [if_neg q]
    cases hc : cut b (c.map Int.ofNat) with
    | none => rfl
    | some t =>
      rw [hc] at h
      by_cases hk : chk (-1) (List.zipWith Po.mk (sm 0 (a.map Int.ofNat)) t) = 0
      · exact absurd (by simp [hk]) h
      · simp [hk]
theorem read_bad (s : List UInt8) (h : (read s).2 ≠ 0) : (read s).1 = [] := by
  rw [read_st] at *
  by_cases h0 : er s 0 ≠ 0
  · rw [if_pos h0]
  · rw [if_neg h0] at *
    by_cases h1 : er s 1 ≠ 0
    · rw [if_pos h1]
    · rw [if_neg h1] at *
      by_cases h2 : er s 2 ≠ 0
      · rw [if_pos h2]
      · rw [if_neg h2] at *
        by_cases h3 : st s 3 ≠ []
        · rw [if_pos h3]
        · rw [if_neg h3] at *
          exact mk_bad _ _ _ h
end Pt
theorem own_form {w : World} {B : Nat} {t : TypeId} {z : Nat} {v : Value} {n : Nat} {xs : List Value} (h : w.ownsRow B t z v n xs) : ∃ a c, v = .slice a n c := by
  rcases h.2 with ⟨rfl, rfl⟩ | ⟨g, cap, cur, rfl, _⟩
  · exact ⟨_, _, rfl⟩
  · exact ⟨_, _, rfl⟩
/-- Postings that are written over, while what is younger than them stays. -/
structure RsA (w W4 : World) (C : Nat) (wx : World) (g n : Nat) (vs : List Value) : Prop where
  old : Below w.heap.size w wx
  size : W4.heap.size ≤ wx.heap.size
  keep : ∀ k, C ≤ k → k < W4.heap.size → wx.heap[k]? = W4.heap[k]?
  wo : 0 < n → Wo wx w.heap.size C g n vs
theorem RsA.setI {w W4 : World} {C : Nat} {wx : World} {g n : Nat} {vs : List Value} (h : RsA w W4 C wx g n vs) (q k : Nat) (x : Value) (q1 : w.heap.size ≤ q) (q2 : q < C) (hq : ∃ cs : Array Value, wx.heap[q]? = some (.cells cs 3 (0, 0))) : RsA w W4 C (wx.setCell ⟨q, k, none⟩ x) g n vs :=
  ⟨h.old.setCell (p := ⟨q, k, none⟩) q1 x, by simpa [World.setCell] using h.size, fun i hi h2 => (heap_other _ _ _ _ _ (by omega)).trans (h.keep i hi h2), fun h0 => (h.wo h0).setI q k x hq⟩
theorem RsA.below {w W4 : World} {C : Nat} {wx w' : World} {g n : Nat} {vs : List Value} (h : RsA w W4 C wx g n vs) (hb : Below wx.heap.size wx w') (hC : C ≤ W4.heap.size) : RsA w W4 C w' g n vs :=
  ⟨h.old.trans (hb.mono h.old.size), Nat.le_trans h.size hb.size, fun i hi h2 => (hb.block i (Nat.lt_of_lt_of_le h2 h.size)).trans (h.keep i hi h2), fun h0 => (h.wo h0).keep fun k _ hk => hb.block k (Nat.lt_of_lt_of_le hk (Nat.le_trans hC h.size))⟩
theorem Wo.list' {w : World} {B C g n : Nat} {vs : List Value} (h : Wo w B C g n vs) (k : Nat) (hv : k < vs.length) (a : Option Addr) (m c : Nat) (f : vs[k] = .slice a m c) (h0 : 0 < m) : ∃ q, a = some ⟨q, 0, none⟩ ∧ B ≤ q ∧ q < C ∧ ∃ cs : Array Value, w.heap[q]? = some (.cells cs 3 (0, 0)) ∧ m ≤ cs.size := by
  obtain ⟨a1, m1, c1, q, q1, q2, q3, q4⟩ := h.each k hv
  rw [f] at q1
  injection q1 with e1 e2 e3
  subst e1 e2 e3
  exact ⟨q, q4 h0⟩
theorem three_at (w : World) : ∀ j u, ([.int .i64 (-1), .int .i64 (-1), .int .i64 (-1)] : List Value)[j]? = some u → (w.alloc (.cells #[.int .i64 (-1), .int .i64 (-1), .int .i64 (-1)] 3)).cell? ((⟨w.heap.size, 0, none⟩ : Addr).add j) = some u := by
  intro j u hj
  have h := Go.Deep.blk_alloc_new w (.cells #[.int .i64 (-1), .int .i64 (-1), .int .i64 (-1)] 3)
  rw [Addr.add_lit, Nat.zero_add]
  simp only [World.cell?, h]
  simpa using hj
set_option maxRecDepth 100000 in
set_option maxHeartbeats 8000000 in
theorem reads14_walk (w : World) (s : ByteArray) (hs : s.size ≤ 1048576) :
    Calls Try.prog 4 #[.string s] w fun e w' => e = .returned (.bool true) ∧ Below w.heap.size w w' := by
  have haw := Lib.hid (fun w => awake14_any w)
  obtain ⟨L, x, hrs⟩ : ∃ L x, Pt.read s.data.toList = (L, x) := ⟨_, _, rfl⟩
  have hRB : Hid (∀ W, Calls Try.prog 18 #[.string s] W fun e w' => ∃ a c, e = .returned (.tuple #[.slice a L.length c, .int .i64 x]) ∧ PoS (fun g => W.heap.size ≤ g) w' (.slice a L.length c) L ∧ Below W.heap.size W w') := fun W => by
    refine (readR14_any W s hs).mono ?_
    rintro e w' ⟨v, vs, h1, h2, h3⟩
    rw [hrs] at h1 h2
    obtain ⟨a, c, h4, _⟩ := id h2.po
    subst h4
    exact ⟨a, c, h1, h2.po, h3⟩
  by_cases hx : x = 0
  · subst hx
    have hck := (Pt.read_one hrs).1
    have hLl := Pt.chk_len hck
    have hats : Hid (∀ p ∈ L, p.ats.length ≤ 4096) := fun p hp => Pt.chkA_len (Pt.chk_mem hck p hp).2.2.2
    obtain ⟨n, hn⟩ : ∃ n, n = L.length := ⟨_, rfl⟩
    have HN := Lib.hid hn
    have hRA : Hid (∀ W, Calls Try.prog 17 #[.string s] W fun e w' => ∃ g vs, e = .returned (.tuple #[.slice (some ⟨g, 0, none⟩) n n, .int .i64 0]) ∧ PRow w' W.heap.size g n L vs ∧ PoS (fun g => W.heap.size ≤ g) w' (.slice (some ⟨g, 0, none⟩) n n) L ∧ Below W.heap.size W w') := fun W => by
      refine (read_any W s (by omega)).mono ?_
      rintro e w' ⟨v', rfl, hb, h1 | ⟨_, g, n', vs, rfl, hn', hP⟩⟩
      · rw [hrs] at h1
        exact absurd rfl h1.1
      · rw [hrs] at hn' hP ⊢
        obtain rfl : n' = n := by rw [HN.out]; exact hn'
        exact ⟨g, vs, rfl, hP, (hP.whole HN.out.symm (by omega)).po, hb⟩
    rw [← hn] at hRB hLl
    have RA := Lib.hid (hRA.out w)
    have hn63 : n ≤ 1048576 := hLl
    have hSM : Hid (∀ W u v F G, PoS F W u L → PoS G W v L → Calls Try.prog 16 #[u, v] W fun e w' => e = .returned (.bool true) ∧ Below W.heap.size W w') := fun W u v F G h1 h2 => (sameP_any W F G u v L L h1 h2).mono fun e w' h => ⟨by rw [h.1, decide_eq_true rfl], h.2⟩
    clear hck hrs hn
    go_enter Try.func4, Try.ntmps4
    go_wp2_with (first
      | (go_at_call 17; refine RA.out.mono ?_; rintro e1 w1 ⟨g1, vs1, rfl, hP1, hS1, hb1⟩; have HP1 := Lib.hid hP1; have HS1 := Lib.hid hS1; have HB1 := Lib.hid hb1; have RC := Lib.hid (fun W => hRA.out W); clear hP1 hS1 hb1 RA hRA)
      | (go_at_call 18; refine (hRB.out w1).mono ?_; rintro e1 w2 ⟨a2, c2, rfl, hS2, hb2⟩; have HS2 := Lib.hid hS2; have HB2 := Lib.hid hb2; clear hS2 hb2 hRB)
      | (go_at_call 17; refine (RC.out w2).mono ?_; rintro e1 w3 ⟨g3, vs3, rfl, _, hS3, hb3⟩; have HS3 := Lib.hid hS3; have HB3 := Lib.hid hb3; clear hS3 hb3 RC)
      | (go_at_call 13; refine (haw.out _).mono ?_; rintro e1 w4 ⟨rfl, hb4⟩; have HB4 := Lib.hid hb4; clear hb4 haw)
      | (go_at_call 16; refine (hSM.out w4 _ _ _ _ (((HS1.out.below HB2.out).below HB3.out).below HB4.out) ((HS2.out.below HB3.out).below HB4.out)).mono ?_; rintro e1 w5 ⟨rfl, hb5⟩; have HB5 := Lib.hid hb5; have hSN := Lib.hid (fun W u v F G => hSM.out W u v F G); clear hb5 hSM))
    have B15 : Hid (Below w1.heap.size w1 w5) := ((HB2.out.trans (HB3.out.mono HB2.out.size)).trans (HB4.out.mono (Nat.le_trans HB2.out.size HB3.out.size))).trans (HB5.out.mono (Nat.le_trans HB2.out.size (Nat.le_trans HB3.out.size HB4.out.size)))
    obtain ⟨C, hC⟩ : ∃ C, C = w1.heap.size := ⟨_, rfl⟩
    have HC : Hid (C ≤ w2.heap.size ∧ C ≤ w5.heap.size) := ⟨by rw [hC]; exact HB2.out.size, by rw [hC]; exact B15.out.size⟩
    have HR : Hid (RsA w w5 C w5 g1 n vs1) := ⟨HB1.out.trans (B15.out.mono HB1.out.size), Nat.le_refl _, fun _ _ _ => rfl, fun h0 => by
      have h1 := HP1.out.wo HN.out
      rw [← HN.out] at h1
      rw [hC]
      exact h1.keep fun k _ hk => B15.out.block k hk⟩
    have HS5b : Hid (PoS (fun g => C ≤ g) w5 (.slice a2 n c2) L) := by rw [hC]; exact ((HS2.out.below HB3.out).below HB4.out).below HB5.out
    have HS5c : Hid (PoS (fun g => C ≤ g) w5 (.slice (some ⟨g3, 0, none⟩) n n) L) := ((HS3.out.below HB4.out).below HB5.out).wide fun k _ hk => Nat.le_trans HC.out.1 hk
    have HV : Hid (∀ j (_ : j < n) (_ : j < vs1.length), ∃ q m, vs1[j] = .slice (some ⟨q, 0, none⟩) m m ∧ m ≤ 4096) := fun j j1 j2 => by
      have j3 : j < L.length := by rw [← HN.out]; exact j1
      obtain ⟨_, q, hq⟩ := HP1.out.each j j3 j2
      exact ⟨q, _, hq, hats.out _ (List.getElem_mem j3)⟩
    clear HB1 HB2 HB3 HB4 HB5 B15 HP1 HS1 HS2 HS3 hC hats
    go_loopg [9] n (fun g iv wx => ∃ k : Nat, k ≤ n ∧ g = n - k ∧ iv = .int .i64 k ∧ Hid (RsA w w5 C wx g1 n vs1))
    case atStart => exact ⟨0, Nat.zero_le _, rfl, rfl, HR⟩
    case round =>
      clear HR
      obtain ⟨k, hk, rfl, rfl, HR⟩ := hrel
      by_cases hkn : k < n
      · have i2 : (k : Int) < (n : Int) := by omega
        have hw := HR.out.wo (by omega)
        obtain ⟨⟨hvl, e1⟩, _, _⟩ := hw.row k hkn
        obtain ⟨q, m, f1, f2⟩ := HV.out k hkn hvl
        have F1 := Lib.hid f1
        rw [f1] at e1
        clear hw f1
        go_wp2_with fail
        go_loopg [10] m (fun g' jv wx => ∃ j : Nat, j ≤ m ∧ g' = m - j ∧ jv = .int .i64 j ∧ Hid (RsA w w5 C wx g1 n vs1))
        case atStart => exact ⟨0, Nat.zero_le _, rfl, rfl, HR⟩
        case round =>
          clear HR e1
          obtain ⟨j, hj, rfl, rfl, HR⟩ := hrel
          have hw := HR.out.wo (by omega)
          obtain ⟨⟨_, e1⟩, _, _⟩ := hw.row k hkn
          rw [F1.out] at e1
          by_cases hjm : j < m
          · have j2 : (j : Int) < (m : Int) := by omega
            obtain ⟨q', hq', q1, q2, cs, q3, q4⟩ := hw.list' k hvl _ _ _ F1.out (by omega)
            obtain rfl : q = q' := by simpa using hq'
            obtain ⟨⟨u1, y1⟩, y2⟩ := int_at q3 q4 j hjm
            have HR2 : Hid (RsA w w5 C (wr.setCell ⟨q, j, none⟩ (.int .i64 (-1))) g1 n vs1) := HR.out.setI q j _ q1 q2 ⟨cs, q3⟩
            clear hw q3 q4 HR hq'
            go_wp2_with fail
            go_roundg (m - (j + 1))
            case rel => exact ⟨j + 1, by omega, rfl, by go_num, HR2⟩
            case measure => omega
          · obtain rfl : j = m := by omega
            obtain ⟨olds, ho1, ho2⟩ : ∃ olds : List Value, olds.length = j * 1 ∧ ∀ (i : Nat) (u : Value), olds[i]? = some u → wr.cell? ⟨q, 0 + i, none⟩ = some u := by
              by_cases h0 : 0 < j
              · obtain ⟨q', hq', q1, q2, cs, q3, q4⟩ := hw.list' k hvl _ _ _ F1.out h0
                obtain rfl : q = q' := by simpa using hq'
                refine ⟨cs.toList.take j, by rw [List.length_take, Array.length_toList]; omega, fun i u hu => ?_⟩
                have hi : i < j := by
                  rcases Nat.lt_or_ge i j with h | h
                  · exact h
                  · rw [List.getElem?_eq_none (by rw [List.length_take]; omega)] at hu; cases hu
                rw [List.getElem?_take_of_lt hi, Array.getElem?_toList] at hu
                simp [World.cell?, q3, hu]
              · exact ⟨[], by simp; omega, fun i u hu => by simp at hu⟩
            have HOL := Lib.hid ho1
            have HOC := Lib.hid ho2
            have HRA : Hid (RsA w w5 C (wr.alloc (.cells #[.int .i64 (-1), .int .i64 (-1), .int .i64 (-1)] 3)) g1 n vs1) := HR.out.below ((Below.refl _ _).alloc (Nat.le_refl _) _) HC.out.2
            obtain ⟨ii, hii, hz0, hz1, hz2⟩ := info_parts Try.infoI
            have HI := Lib.hid (show Try.prog.info? 3 = some ii ∧ ii.zero = some (.int .i64 0) ∧ ii.size = 1 ∧ ii.bytes = 8 from ⟨hii, hz0, hz1, hz2⟩)
            clear hw ho1 ho2 HR hii hz0 hz1 hz2
            go_wp2_with (at_builtin; go_loud (refine wpList_append_grows (wr.alloc (.cells #[.int .i64 (-1), .int .i64 (-1), .int .i64 (-1)] 3)) rfl _ _ 38 rfl 3 ii (.int .i64 0) 1 8 Try.underlying38 HI.out.1 HI.out.2.1 HI.out.2.2.1 HI.out.2.2.2 rfl (by decide) (some ⟨q, 0, none⟩) j j olds rfl (fun h => by cases h) HOL.out (fun b hb i u hu => by cases hb; rw [Addr.add_lit]; exact (World.cell?_alloc_lt _ _ _ (World.block_lt_of_cell? _ _ (HOC.out i u hu))).trans (HOC.out i u hu)) ⟨wr.heap.size, 0, none⟩ 3 3 [.int .i64 (-1), .int .i64 (-1), .int .i64 (-1)] rfl rfl (three_at wr) (fun u hu => (by simp at hu; subst hu; rfl)) (by omega) (by unfold maxLen; omega) (by omega) ?_; intro v8 w8 hO8 hG8; obtain ⟨a8, c8, rfl⟩ := own_form hO8; have HR8 := Lib.hid (HRA.out.below ((Below.refl _ _).grown hG8 (Nat.le_refl _) (fun j hj => (by cases hj))) HC.out.2); clear hO8 hG8 HRA))
            go_roundg (n - (k + 1))
            case rel => exact ⟨k + 1, by omega, rfl, by go_num, HR8⟩
            case measure => omega
      · obtain rfl : k = n := by omega
        have HSC := Lib.hid (HS5c.out.keep HR.out.size fun g hg hl => HR.out.keep g hg hl)
        have HSB := Lib.hid (HS5b.out.keep HR.out.size fun g hg hl => HR.out.keep g hg hl)
        have HB6 := Lib.hid HR.out.old
        clear HR HS5c HS5b
        go_wp2_with (go_at_call 16; refine (hSN.out wr _ _ _ _ HSC.out HSB.out).mono ?_; rintro e1 w6 ⟨rfl, hb6⟩; have HB7 := Lib.hid (HB6.out.trans (hb6.mono HB6.out.size)); clear hb6)
        go_ret
        exact ⟨rfl, HB7.out⟩
  · have hLn : L = [] := by have := Pt.read_bad s.data.toList (by rw [hrs]; exact hx); rw [hrs] at this; exact this
    subst hLn
    have hRA : Hid (∀ W, Calls Try.prog 17 #[.string s] W fun e w' => e = .returned (.tuple #[.slice none 0 0, .int .i64 x]) ∧ Below W.heap.size W w') := fun W => read_no W s (by omega) x hx (by rw [hrs])
    have RA := Lib.hid (hRA.out w)
    have hRB2 : Hid (∀ W, Calls Try.prog 18 #[.string s] W fun e w' => ∃ a c, e = .returned (.tuple #[.slice a 0 c, .int .i64 x]) ∧ PoS (fun g => W.heap.size ≤ g) w' (.slice a 0 c) [] ∧ Below W.heap.size W w') := hRB.out
    have hSM : Hid (∀ W u v F G, PoS F W u [] → PoS G W v [] → Calls Try.prog 16 #[u, v] W fun e w' => e = .returned (.bool true) ∧ Below W.heap.size W w') := fun W u v F G h1 h2 => (sameP_any W F G u v [] [] h1 h2).mono fun e w' h => ⟨by rw [h.1, decide_eq_true rfl], h.2⟩
    have hxx : (x != x) = false := by simp
    clear hrs hx hRB
    go_enter Try.func4, Try.ntmps4
    go_wp2_with (first
      | (go_at_call 17; refine RA.out.mono ?_; rintro e1 w1 ⟨rfl, hb1⟩; have HB1 := Lib.hid hb1; have RC := Lib.hid (fun W => hRA.out W); clear hb1 RA hRA)
      | (go_at_call 18; refine (hRB2.out w1).mono ?_; rintro e1 w2 ⟨a2, c2, rfl, hS2, hb2⟩; have HS2 := Lib.hid hS2; have HB2 := Lib.hid (HB1.out.trans (hb2.mono HB1.out.size)); clear hS2 hb2 hRB2)
      | (go_at_call 17; refine (RC.out w2).mono ?_; rintro e1 w3 ⟨rfl, hb3⟩; have HS3 := Lib.hid (HS2.out.below hb3); have HB3 := Lib.hid (HB2.out.trans (hb3.mono HB2.out.size)); clear hb3 RC)
      | (go_at_call 13; refine (haw.out _).mono ?_; rintro e1 w4 ⟨rfl, hb4⟩; have HS4 := Lib.hid (HS3.out.below hb4); have HB4 := Lib.hid (HB3.out.trans (hb4.mono HB3.out.size)); clear hb4 haw)
      | (go_at_call 16; refine (hSM.out w4 _ _ _ _ (PoS.nil (fun _ => True) _) HS4.out).mono ?_; rintro e1 w5 ⟨rfl, hb5⟩; have HS5 := Lib.hid (HS4.out.below hb5); have HB5 := Lib.hid (HB4.out.trans (hb5.mono HB4.out.size)); have hSN := Lib.hid (fun W u v F G => hSM.out W u v F G); clear hb5 hSM)
      | (go_at_call 16; refine (hSN.out w5 _ _ _ _ (PoS.nil (fun _ => True) _) HS5.out).mono ?_; rintro e1 w6 ⟨rfl, hb6⟩; have HB6 := Lib.hid (HB5.out.trans (hb6.mono HB5.out.size)); clear hb6 hSN))
    go_loopg [9] 0 (fun g iv wx => g = 0 ∧ iv = .int .i64 0 ∧ wx = w5)
    case atStart => exact ⟨rfl, rfl, rfl⟩
    case round =>
      obtain ⟨rfl, rfl, rfl⟩ := hrel
      go_wp2_with (go_at_call 16; refine (hSN.out _ _ _ _ _ (PoS.nil (fun _ => True) _) HS5.out).mono ?_; rintro e1 w6 ⟨rfl, hb6⟩; have HB6 := Lib.hid (HB5.out.trans (hb6.mono HB5.out.size)); clear hb6 hSN)
      go_ret
      exact ⟨rfl, HB6.out⟩
end Go.Proofs.Ytokdjaljeckghaa
