/-
  The document's sets: Read.
-/
import Derived.Test.YtoppgecajibelaaSf
import Derived.Deep.DeepCutAuto
namespace Go.Proofs.Ytoppgecajibelaa
open Go.RowKit
namespace Ls
def sh (b k : Nat) : Nat := b / 2 ^ k
theorem sh_zero (b : Nat) : sh b 0 = b := by unfold sh; simp
theorem sh_succ (b k : Nat) : sh b (k + 1) = sh b k / 2 := by unfold sh; rw [Nat.pow_succ, Nat.div_div_eq_div_mul]
theorem sh_le (b k : Nat) : sh b k ≤ b := Nat.div_le_self _ _
theorem sh_bit (b k : Nat) : b.testBit k = decide (sh b k % 2 = 1) := by rw [Nat.testBit_eq_decide_div_mod_eq]; rfl
end Ls
/-- What Read answers. -/
def ReadR (w : World) (S : List UInt8) (e : Ending) (w' : World) : Prop :=
  ∃ P, e = .returned (.tuple #[P, .int .i64 (Ls.rd S).1]) ∧ Below w.heap.size w w' ∧ (((Ls.rd S).1 ≠ 0 ∧ P = .pointer none) ∨ ((Ls.rd S).1 = 0 ∧ ∃ p v, P = .pointer (some ⟨p, 0, none⟩) ∧ RefS w' w.heap.size p (Ls.rd S).2.1 (Ls.rd S).2.2 v))
theorem ReadR.bad {w w' : World} {S : List UInt8} {x : Int} {n : Nat} {G : List Nat} (h : Ls.rd S = (x, n, G)) (hx : x ≠ 0) (hb : Below w.heap.size w w') : ReadR w S (.returned (.tuple #[.pointer none, .int .i64 x])) w' :=
  ⟨_, by rw [h], hb, .inl ⟨by rw [h]; exact hx, rfl⟩⟩
theorem RefS.push {w w' : World} {B p n : Nat} {G : List Nat} {v v' : Value} {d : Nat} (h : RefS w B p n G v) (ho : OwnI w' B v' (G.map Int.ofNat ++ [(d : Int)])) (hm : Moved w w' v v') (hok : Ls.Ok n (G ++ [d])) : RefS (w'.setCell ⟨p, 1, none⟩ v') B p n (G ++ [d]) v' ∧ w'.heap[p]? = some (.cells #[.int .i64 (n : Int), v] 40 (0, 0)) := by
  have hbx := (hm.1 p (blk_lt h.box) h.far).trans h.box
  refine ⟨⟨h.base, ?_, ?_, hok, h.lim⟩, hbx⟩
  · rw [heap_set _ _ _ _ _ _ _ hbx]
    rfl
  · rw [List.map_append]
    exact ho.keepB fun k hk => heap_other _ _ _ _ _ fun e => ho.far hbx (by decide) (e ▸ hk)
set_option maxRecDepth 100000 in
set_option maxHeartbeats 8000000 in
theorem readS_any (w : World) (s : ByteArray) (hs : s.size ≤ 140737488353280) :
    Calls Try.prog 20 #[.string s] w (ReadR w s.data.toList) := by
  obtain ⟨c, z, e, hr⟩ : ∃ c z e, Pl.rdCount s.data.toList = (c, z, e) := ⟨_, _, _, rfl⟩
  obtain ⟨⟨b1, b2⟩, ⟨b3, b4⟩, b5, b6⟩ := rdCount_bd _ _ _ _ hr
  have hc := Lib.hid (readCountR_any s w (by omega) c z e hr)
  obtain ⟨S, hS⟩ : ∃ S, S = s.data.toList := ⟨_, rfl⟩
  have hSl : S.length = s.size := by rw [hS]; simp
  have HS : Hid (s.data.toList = S) := hS.symm
  rw [← hS] at hr b4 ⊢
  clear hS
  by_cases he : e = 0
  · subst he
    obtain ⟨n, rfl⟩ := Int.eq_ofNat_of_zero_le b1
    obtain ⟨zn, rfl⟩ := Int.eq_ofNat_of_zero_le b3
    have hzs : zn ≤ s.size := by omega
    have hnw := Lib.hid (fun W : World => newR_any W (n : Int))
    have hrd : Hid (Ls.rd S = if 1048576 < (n : Int) then (4, 0, []) else ((Ls.rdT n (S.drop zn)).1, n, (Ls.rdT n (S.drop zn)).2)) := by
      show _ = _
      unfold Ls.rd
      rw [hr]
      simp
    clear hr b6 b5
    by_cases hn : 1048576 < (n : Int)
    · have hR : Hid (Ls.rd S = (4, 0, [])) := by show _ = _; rw [hrd.out, if_pos hn]
      have hN2 : Hid (∀ W, Calls Try.prog 9 #[.int .i64 (n : Int)] W fun e w' => e = .returned (.tuple #[.pointer none, .int .i64 4]) ∧ Below W.heap.size W w') := fun W => by
        refine (hnw.out W).mono ?_
        rintro e w' ⟨hb, (⟨q, _⟩ | ⟨_, q⟩ | ⟨k, q1, q2, _⟩)⟩
        · omega
        · exact ⟨q, hb⟩
        · omega
      clear hrd hnw
      go_enter Try.func20, Try.ntmps20
      go_wp2_with (first
        | (go_at_call 29; refine hc.out.mono ?_; rintro e1 w1 ⟨rfl, hb1⟩; have HB1 := Lib.hid hb1; clear hb1 hc)
        | (go_at_call 9; refine (hN2.out w1).mono ?_; rintro e1 w2 ⟨rfl, hb2⟩; have HB2 := Lib.hid (HB1.out.trans (hb2.mono HB1.out.size)); clear hb2 hN2))
      go_ret2
      exact ReadR.bad hR.out (by decide) HB2.out
    · have hR0 : Hid (Ls.rd S = ((Ls.rdT n (S.drop zn)).1, n, (Ls.rdT n (S.drop zn)).2)) := by show _ = _; rw [hrd.out, if_neg hn]
      have hnl : n ≤ 1048576 := by omega
      have hN2 : Hid (∀ W, Calls Try.prog 9 #[.int .i64 (n : Int)] W fun e w' => e = .returned (.tuple #[.pointer (some ⟨W.heap.size, 0, none⟩), .int .i64 0]) ∧ RefS w' W.heap.size W.heap.size n [] (.slice none 0 0) ∧ Below W.heap.size W w') := fun W => by
        refine (hnw.out W).mono ?_
        rintro e w' ⟨hb, (⟨q, _⟩ | ⟨q, _⟩ | ⟨k, q1, q2, q3, q4⟩)⟩
        · omega
        · omega
        · obtain rfl : n = k := by omega
          exact ⟨q3, q4, hb⟩
      obtain ⟨t, ht⟩ : ∃ t, s.extract zn s.size = t := ⟨_, rfl⟩
      have htd : t.data.toList = S.drop zn := by
        rw [← ht, Lib.extract_data, HS.out]
        exact List.take_of_length_le (by rw [List.length_drop]; omega)
      obtain ⟨L, hL⟩ : ∃ L, L = t.size := ⟨_, rfl⟩
      have hTl : (S.drop zn).length = L := by rw [← htd, hL]; simp
      have hLs : L ≤ s.size := by rw [← hTl, List.length_drop]; omega
      obtain ⟨q, hq⟩ : ∃ q, q = (n + 7) / 8 := ⟨_, rfl⟩
      have f1 : IntKind.i64.wrap ((n : Int) + 7) = (n : Int) + 7 := IntWalk.i64_in _ (by omega)
      have f2 : ((n : Int) + 7).tdiv 8 = (q : Int) := by rw [Int.tdiv_eq_ediv_of_nonneg (by omega), hq]; omega
      have hq2 : q ≤ 131072 := by omega
      have HT : Hid (Ls.rdT n (S.drop zn) = if L < q then (2, []) else if q < L then (5, []) else if (∀ g ∈ Ls.ones (S.drop zn) (8 * L), g < n) then (0, Ls.ones (S.drop zn) (8 * L)) else (3, [])) := by
        show _ = _
        unfold Ls.rdT
        rw [hTl, hq]
      have HTD : Hid (t.data.toList = S.drop zn) := htd
      have HLT : Hid (t.size = L) := hL.symm
      clear hrd hnw hn hTl hq htd
      by_cases hl1 : L < q
      · have hR : Hid (Ls.rd S = (2, n, [])) := by show _ = _; rw [hR0.out, HT.out, if_pos hl1]
        have i1 : ((t.size : Nat) : Int) < (q : Int) := by rw [← hL]; omega
        clear hR0 HT hL
        go_enter Try.func20, Try.ntmps20
        go_wp2_with (first
          | (go_at_call 29; refine hc.out.mono ?_; rintro e1 w1 ⟨rfl, hb1⟩; have HB1 := Lib.hid hb1; clear hb1 hc)
          | (go_at_call 9; refine (hN2.out w1).mono ?_; rintro e1 w2 ⟨rfl, hn2, hb2⟩; have HN2 := Lib.hid hn2; have HB2x := Lib.hid hb2; have HB2 := Lib.hid (HB1.out.trans (hb2.mono HB1.out.size)); clear hb2 hn2 hN2))
        go_ret2
        exact ReadR.bad hR.out (by decide) HB2.out
      · by_cases hl2 : q < L
        · have hR : Hid (Ls.rd S = (5, n, [])) := by show _ = _; rw [hR0.out, HT.out, if_neg hl1, if_pos hl2]
          have i1 : ¬ ((t.size : Nat) : Int) < (q : Int) := by rw [← hL]; omega
          have i2 : (q : Int) < ((t.size : Nat) : Int) := by rw [← hL]; omega
          clear hR0 HT hL
          go_enter Try.func20, Try.ntmps20
          go_wp2_with (first
            | (go_at_call 29; refine hc.out.mono ?_; rintro e1 w1 ⟨rfl, hb1⟩; have HB1 := Lib.hid hb1; clear hb1 hc)
            | (go_at_call 9; refine (hN2.out w1).mono ?_; rintro e1 w2 ⟨rfl, hn2, hb2⟩; have HN2 := Lib.hid hn2; have HB2x := Lib.hid hb2; have HB2 := Lib.hid (HB1.out.trans (hb2.mono HB1.out.size)); clear hb2 hn2 hN2))
          go_ret2
          exact ReadR.bad hR.out (by decide) HB2.out
        · have hR : Hid (Ls.rd S = if (∀ g ∈ Ls.ones (S.drop zn) (8 * L), g < n) then (0, n, Ls.ones (S.drop zn) (8 * L)) else (3, n, [])) := by
            show _ = _
            rw [hR0.out, HT.out, if_neg hl1, if_neg hl2]
            split <;> rfl
          have i1 : ¬ ((t.size : Nat) : Int) < (q : Int) := by rw [← hL]; omega
          have i2 : ¬ (q : Int) < ((t.size : Nat) : Int) := by rw [← hL]; omega
          have i3 : decide (t.size < q) = false := decide_eq_false (by rw [← hL]; omega)
          have i4 : decide (q < t.size) = false := decide_eq_false (by rw [← hL]; omega)
          have hLq : L ≤ 131072 := by omega
          obtain ⟨T, hT⟩ : ∃ T, T = S.drop zn := ⟨_, rfl⟩
          rw [← hT] at hR HTD
          clear hR0 HT hL hT hl1 hl2
          go_enter Try.func20, Try.ntmps20
          go_wp2_with (first
            | (go_at_call 29; refine hc.out.mono ?_; rintro e1 w1 ⟨rfl, hb1⟩; have HB1 := Lib.hid hb1; clear hb1 hc)
            | (go_at_call 9; refine (hN2.out w1).mono ?_; rintro e1 w2 ⟨rfl, hn2, hb2⟩; have HN2 := Lib.hid hn2; have HB2x := Lib.hid hb2; have HB2 := Lib.hid (HB1.out.trans (hb2.mono HB1.out.size)); clear hb2 hn2 hN2))
          obtain ⟨p, hp⟩ : ∃ p, p = w1.heap.size := ⟨_, rfl⟩
          have HBp : Hid (w.heap.size ≤ p) := by show _ ≤ _; rw [hp]; exact HB1.out.size
          have HPB : Hid (Below w.heap.size w w2) := HB2.out
          rw [← hp] at HN2 ⊢
          clear hp HB1 HB2 HB2x
          go_loopg [8] L (fun g' i wx => ∃ (k : Nat) (v : Value), k ≤ L ∧ g' = L - k ∧ i = .int .i64 k ∧ Hid (RefS wx p p n (Ls.ones T (8 * k)) v) ∧ Hid (Below w.heap.size w wx))
          case atStart => exact ⟨0, _, Nat.zero_le _, rfl, rfl, HN2.out, HPB.out⟩
          case round =>
            clear HN2 HPB
            obtain ⟨k, v, hk, rfl, rfl, HR, HB⟩ := hrel
            by_cases hkL : k < L
            · have j1 : (k : Int) < ((t.size : Nat) : Int) := by have := HLT.out; omega
              have kt : k < t.size := by have := HLT.out; omega
              have j2 : (0 : Int) ≤ (k : Int) := by omega
              obtain ⟨b, hb⟩ : ∃ b, b = t[k].toNat := ⟨_, rfl⟩
              have hb8 : b < 256 := by rw [hb]; exact t[k].toNat_lt
              have wb : wrap64 ((t[k].toNat : Nat) : Int) = ((Ls.sh b 0 : Nat) : Int) := by
                rw [← hb, Ls.sh_zero]
                exact IntWalk.wrap64_in _ (by omega)
              have HBT : Hid (∀ j, j < 8 → Ls.bt T (8 * k + j) = decide (Ls.sh b j % 2 = 1)) := fun j hj => by
                unfold Ls.bt
                rw [show (8 * k + j) / 8 = k by omega, show (8 * k + j) % 8 = j by omega, ← Ls.sh_bit]
                have kT : k < t.data.toList.length := by simpa using kt
                have e : T.getD k 0 = t[k] := by
                  rw [← HTD.out]
                  simp only [List.getD, List.getElem?_eq_getElem kT, Option.getD_some]
                  rfl
                rw [e, hb]
              have WB := Lib.hid wb
              clear hb wb
              go_wp2_with fail
              go_loopg [9, 10] 8 (fun g' cv jv wx => ∃ (j : Nat) (v : Value), j ≤ 8 ∧ g' = 8 - j ∧ jv = .int .i64 j ∧ cv = .int .i64 ((Ls.sh b j : Nat) : Int) ∧ Hid (RefS wx p p n (Ls.ones T (8 * k + j)) v) ∧ Hid (Below w.heap.size w wx))
              case atStart => exact ⟨0, v, by omega, rfl, rfl, by rw [WB.out], HR, HB⟩
              case round =>
                clear HR HB
                obtain ⟨j, v, hj, rfl, rfl, rfl, HR, HB⟩ := hrel
                by_cases hj8 : j < 8
                · have i5 : (j : Int) < 8 := by omega
                  have hbt := HBT.out j hj8
                  have hon := Ls.ones_succ T (8 * k + j)
                  rw [hbt] at hon
                  obtain ⟨c, hcz⟩ : ∃ c, c = Ls.sh b j := ⟨_, rfl⟩
                  have hcl : c ≤ 255 := by rw [hcz]; have := Ls.sh_le b j; omega
                  have HS1 : Hid (Ls.sh b (j + 1) = c / 2) := by show _ = _; rw [Ls.sh_succ, hcz]
                  rw [← hcz] at hon hbt ⊢
                  obtain ⟨d, hd⟩ : ∃ d, d = 8 * k + j := ⟨_, rfl⟩
                  rw [← hd] at hon HR hbt
                  have HD : Hid (d = 8 * k + j) := hd
                  have dL : Hid (d < 8 * L) := by show _ < _; omega
                  have m1 : IntKind.i64.wrap (8 * (k : Int)) = 8 * (k : Int) := IntWalk.i64_in _ (by omega)
                  have m2 : IntKind.i64.wrap (8 * (k : Int) + (j : Int)) = (d : Int) := by rw [hd]; exact (IntWalk.i64_in _ (by omega)).trans (by omega)
                  have m3 : (c : Int).tdiv 2 = ((Ls.sh b (j + 1) : Nat) : Int) := by rw [Int.tdiv_eq_ediv_of_nonneg (by omega), HS1.out]; omega
                  have m4 : wrap64 ((Ls.sh b (j + 1) : Nat) : Int) = ((Ls.sh b (j + 1) : Nat) : Int) := IntWalk.wrap64_in _ (by have := HS1.out; omega)
                  have M4 := Lib.hid m4
                  clear hcz hd m4
                  by_cases hc1 : c % 2 = 1
                  · have e1 : (c : Int).tmod 2 = 1 := by rw [Int.tmod_eq_emod_of_nonneg (by omega)]; omega
                    rw [if_pos (decide_eq_true hc1)] at hon
                    rw [decide_eq_true hc1] at hbt
                    by_cases hnd : n ≤ d
                    · have hR3 : Hid (Ls.rd S = (3, n, [])) := by
                        show _ = _
                        rw [hR.out, if_neg (fun h => by have := h d ((Ls.ones_mem _ _ _).2 ⟨dL.out, hbt⟩); omega)]
                      have i6 : (n : Int) ≤ (d : Int) := by omega
                      clear hon hbt hc1
                      go_wp2_with fail
                      go_ret2
                      exact ReadR.bad hR3.out (by decide) HB.out
                    · have i6 : ¬ (n : Int) ≤ (d : Int) := by omega
                      have hok : Ls.Ok n (Ls.ones T d ++ [d]) := HR.out.ok.snoc (by omega) (fun q => Nat.lt_irrefl _ ((Ls.ones_mem _ _ _).1 q).1)
                      have HOK := Lib.hid hok
                      have HON : Hid (Ls.ones T (8 * k + (j + 1)) = Ls.ones T d ++ [d]) := by show _ = _; rw [show 8 * k + (j + 1) = d + 1 by have := HD.out; omega, hon]
                      obtain ⟨a5, c5, hv5⟩ := HR.out.own.form
                      obtain ⟨c0, c1, _⟩ := set_box HR.out.box
                      have hGl := HR.out.ok.len
                      obtain ⟨ml, hml⟩ : ∃ ml, ml = ((Ls.ones T d).map Int.ofNat).length := ⟨_, rfl⟩
                      have hml2 : Hid (((Ls.ones T d).map Int.ofNat).length + 1 ≤ 17179869184) := by show _ ≤ _; rw [List.length_map]; omega
                      rw [← hml] at hv5
                      have HPS : Hid (p ≤ wr.heap.size) := Nat.le_of_lt (blk_lt HR.out.box)
                      clear hon hbt hc1 hok hml hGl
                      subst hv5
                      go_wp2_with (at_builtin; go_loud (refine wpList_appendM (F := fun _ => True) rfl _ _ rfl rfl p (Nat.le_trans HPS.out (by simp)) (.slice a5 ml c5) (.slice (some ⟨wr.heap.size, 0, none⟩) 1 1) ((Ls.ones T d).map Int.ofNat) [(d : Int)] rfl rfl (HR.out.own.alloc _) (one_int' _ _ rfl _) hml2.out ?_; intro v8 w8 hO8 hB8 hM8; obtain ⟨hX8, hbx8⟩ := HR.out.push hO8 hM8.pre HOK.out; obtain ⟨b0, b1, b2⟩ := set_box hbx8; obtain ⟨a8, c8, hv8⟩ := hO8.form; obtain ⟨m8, hm8⟩ : ∃ m8, m8 = ((Ls.ones T d).map Int.ofNat ++ [(d : Int)]).length := ⟨_, rfl⟩; have HB8 := Lib.hid ((HB.out.alloc HB.out.size _).trans (hB8.mono HBp.out)); rw [← hm8] at hv8; clear hm8 hO8 hB8 hM8 hbx8; subst hv8; have HX8 := Lib.hid hX8; clear hX8))
                      go_roundg (8 - (j + 1))
                      case rel => exact ⟨j + 1, _, by omega, rfl, by go_num, by rw [M4.out], by show RefS _ _ _ _ _ _; rw [HON.out]; exact HX8.out, HB8.out.setCell (p := ⟨p, 1, none⟩) HBp.out _⟩
                      case measure => omega
                  · have e1 : (c : Int).tmod 2 = 0 := by rw [Int.tmod_eq_emod_of_nonneg (by omega)]; omega
                    rw [if_neg (by rw [decide_eq_false hc1]; simp)] at hon
                    have HON : Hid (Ls.ones T (8 * k + (j + 1)) = Ls.ones T d) := by show _ = _; rw [show 8 * k + (j + 1) = d + 1 by have := HD.out; omega, hon]
                    clear hon hbt hc1
                    go_wp2_with fail
                    go_roundg (8 - (j + 1))
                    case rel => exact ⟨j + 1, v, by omega, rfl, by go_num, by rw [M4.out], by show RefS _ _ _ _ _ _; rw [HON.out]; exact HR.out, HB⟩
                    case measure => omega
                · obtain rfl : j = 8 := by omega
                  go_wp2_with fail
                  go_roundg (L - (k + 1))
                  case rel => exact ⟨k + 1, v, by omega, rfl, by go_num, by show RefS _ _ _ _ _ _; rw [show 8 * (k + 1) = 8 * k + 8 by omega]; exact HR.out, HB⟩
                  case measure => omega
            · obtain rfl : k = L := by omega
              have j1 : ¬ (k : Int) < ((t.size : Nat) : Int) := by have := HLT.out; omega
              have hall : ∀ g ∈ Ls.ones T (8 * k), g < n := HR.out.ok.lt
              have hR2 : Hid (Ls.rd S = (0, n, Ls.ones T (8 * k))) := by show _ = _; rw [hR.out, if_pos hall]
              clear hall
              go_wp2_with fail
              go_ret2
              exact ⟨_, by rw [hR2.out]; rfl, HB.out, .inr ⟨by rw [hR2.out], p, v, rfl, by rw [hR2.out]; exact HR.out.base' HBp.out⟩⟩
  · have hR : Hid (Ls.rd S = (e, 0, [])) := by
      show _ = _
      unfold Ls.rd
      rw [hr]
      simp [he]
    have hE : Hid (e ≠ 0) := he
    have hne : (e != 0) = true := by simpa using he
    clear hr b5 b6 he
    go_enter Try.func20, Try.ntmps20
    go_wp2_with (go_at_call 29; refine hc.out.mono ?_; rintro e1 w1 ⟨rfl, hb1⟩; have HB1 := Lib.hid hb1; clear hb1 hc)
    go_ret2
    exact ReadR.bad hR.out hE.out HB1.out
end Go.Proofs.Ytoppgecajibelaa
