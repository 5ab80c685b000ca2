/-
  The program's sets: Read.
-/
import Derived.Test.YtoppgecajibelaaTf
import Derived.Laws.IdiomStrings
namespace Go.Proofs.Ytoppgecajibelaa
open Go.RowKit
/-- '[]byte(s)'. -/
theorem conv_bits (w : World) (s : ByteArray) (hs : s.size ≤ maxLen) :
    ∃ a c w', (convert 9 47 (.string s)).run Try.prog w = .ok (.slice a s.size c) w' ∧ BitsAt w' (.slice a s.size c) s.size s.data.toList (fun g => w.heap.size ≤ g) ∧ Below w.heap.size w w' := by
  have hcv := run_bytes_of_string (P := Try.prog) w 9 47 5 s Try.underlying9 Try.underlying47 Try.underlying5
  have hl : s.data.toList.length = s.size := by simp
  have hge := grownCap_ge w s.size 0 5
  have hle := grownCap_le_maxLen w s.size 0 5 hs
  generalize grownCap w s.size 0 5 = cap at *
  refine ⟨_, _, _, hcv, ⟨_, _, rfl, hl, fun h0 => ⟨w.heap.size, rfl, Nat.le_refl _, fun j hj => ?_⟩⟩, ((Below.refl _ _).drew).alloc (Nat.le_refl _) _⟩
  have hj2 : j < s.data.toList.length := by omega
  rw [cell_of_row _ w.heap.size j (bytesRow s cap) _ _ (heap_alloc_new w.drew _)]
  unfold bytesRow
  rw [← Array.getElem?_toList, Array.toList_append, List.getElem?_append_left (by simpa using hj)]
  simp [List.getD, hj]
/-- What Read answers. -/
def ReadS (w : World) (S : List UInt8) (e : Ending) (w' : World) : Prop :=
  ∃ P, e = .returned (.tuple #[P, .int .i64 (Ls.rd S).1]) ∧ Below w.heap.size w w' ∧ (((Ls.rd S).1 ≠ 0 ∧ P = .pointer none) ∨ ((Ls.rd S).1 = 0 ∧ ∃ p v, P = .pointer (some ⟨p, 0, none⟩) ∧ SetS w' w.heap.size p (Ls.rd S).2.1 (Ls.rd S).2.2 v))
theorem ReadS.bad {w w' : World} {S : List UInt8} {x : Int} {n : Nat} {G : List Nat} (h : Ls.rd S = (x, n, G)) (hx : x ≠ 0) (hb : Below w.heap.size w w') : ReadS w S (.returned (.tuple #[.pointer none, .int .i64 x])) w' :=
  ⟨_, by rw [h], hb, .inl ⟨by rw [h]; exact hx, rfl⟩⟩
theorem killAll_yes (w : World) (B p n : Nat) (v u : Value) (L : Nat) (t : List UInt8) (h : SetS w B p n [] v) (hL : L ≤ 131072) (ht : BitsAt w u L t (fun g => g ≠ p ∧ v.ownBlock ≠ some g)) (hok : ∀ g ∈ Ls.ones t (8 * L), g < n) :
    Calls Try.prog 28 #[.pointer (some ⟨p, 0, none⟩), u] w fun e w' => e = .returned (.bool true) ∧ Below B w w' ∧ SetS w' B p n (Ls.ones t (8 * L)) v := by
  refine (killAll_any w B p n v u L t h hL ht).mono ?_
  rintro e w' ⟨h1, (⟨_, h2, h3⟩ | ⟨h2, _⟩)⟩
  · exact ⟨h2, h1, h3⟩
  · exact absurd hok h2
theorem killAll_no (w : World) (B p n : Nat) (v u : Value) (L : Nat) (t : List UInt8) (h : SetS w B p n [] v) (hL : L ≤ 131072) (ht : BitsAt w u L t (fun g => g ≠ p ∧ v.ownBlock ≠ some g)) (hok : ¬ ∀ g ∈ Ls.ones t (8 * L), g < n) :
    Calls Try.prog 28 #[.pointer (some ⟨p, 0, none⟩), u] w fun e w' => e = .returned (.bool false) ∧ Below B w w' := by
  refine (killAll_any w B p n v u L t h hL ht).mono ?_
  rintro e w' ⟨h1, (⟨h2, _⟩ | ⟨_, h2⟩)⟩
  · exact absurd h2 hok
  · exact ⟨h2, h1⟩
theorem BitsAt.wide {w : World} {u : Value} {L : Nat} {t : List UInt8} {Z Y : Nat → Prop} (h : BitsAt w u L t Z) (e : ∀ g, Z g → Y g) : BitsAt w u L t Y := by
  obtain ⟨a, c, h1, h2, h3⟩ := h
  refine ⟨a, c, h1, h2, fun h0 => ?_⟩
  obtain ⟨g, h4, h5, h6⟩ := h3 h0
  exact ⟨g, h4, e g h5, h6⟩
theorem SetS.base2 {w : World} {B C p n : Nat} {G : List Nat} {v : Value} (h : SetS w B p n G v) (hC : C ≤ B) : SetS w C p n G v :=
  ⟨Nat.le_trans hC h.base, h.box, ownsRow_base h.own hC, h.ok, h.lim⟩
theorem SetS.new {w : World} {B p n : Nat} {G : List Nat} {v : Value} (h : SetS w B p n G v) {g : Nat} (hg : w.heap.size ≤ g) : g ≠ p ∧ v.ownBlock ≠ some g :=
  ⟨fun e => absurd (blk_lt h.box) (by omega), fun e => absurd (World.ownsRow.lt h.own g e).2 (by omega)⟩
set_option maxRecDepth 100000 in
set_option maxHeartbeats 8000000 in
theorem readP_any (w : World) (s : ByteArray) (hs : s.size ≤ 140737488353280) :
    Calls Try.prog 19 #[.string s] w (ReadS w s.data.toList) := by
  obtain ⟨c, z, e, hr⟩ : ∃ c z e, Pl.rdCount s.data.toList = (c, z, e) := ⟨_, _, _, rfl⟩
  obtain ⟨⟨b1, b2⟩, ⟨b3, b4⟩, b5, b6⟩ := rdCount_bd _ _ _ _ hr
  obtain ⟨b, hbx⟩ : ∃ b, b = w.heap.size := ⟨_, rfl⟩
  have hat : Hid (Calls Try.prog 25 #[.string s] w fun e' w' => e' = .returned (.pointer (some ⟨b, 0, none⟩)) ∧ Cur w' b s ∧ Below b w w') := by
    refine (at_any s w).mono ?_
    rintro e' w' ⟨rfl, rfl⟩
    rw [hbx]
    exact ⟨rfl, at_cur s w _, (Below.refl _ _).alloc (Nat.le_refl _) _⟩
  have hc := Lib.hid (fun W (hW : Cur W b s) => count_any s b W hW (by omega) c z e hr)
  obtain ⟨S, hS⟩ : ∃ S, S = s.data.toList := ⟨_, rfl⟩
  have hSl : S.length = s.size := by rw [hS]; simp
  have HS : Hid (s.data.toList = S) := hS.symm
  have HBX : Hid (b = w.heap.size) := hbx
  rw [← hS] at hr b4 ⊢
  clear hS hbx
  by_cases he : e = 0
  · subst he
    obtain ⟨n, rfl⟩ := Int.eq_ofNat_of_zero_le b1
    obtain ⟨zn, rfl⟩ := Int.eq_ofNat_of_zero_le b3
    have hzs : zn ≤ s.size := by omega
    have hnw := Lib.hid (fun W : World => newP_any W (n : Int))
    have hrd : Hid (Ls.rd S = if 1048576 < (n : Int) then (4, 0, []) else ((Ls.rdT n (S.drop zn)).1, n, (Ls.rdT n (S.drop zn)).2)) := by
      show _ = _
      unfold Ls.rd
      rw [hr]
      simp
    clear hr b6 b5
    by_cases hn : 1048576 < (n : Int)
    · have hR : Hid (Ls.rd S = (4, 0, [])) := by show _ = _; rw [hrd.out, if_pos hn]
      have hN2 : Hid (∀ W, Calls Try.prog 8 #[.int .i64 (n : Int)] W fun e w' => e = .returned (.tuple #[.pointer none, .int .i64 4]) ∧ Below W.heap.size W w') := fun W => by
        refine (hnw.out W).mono ?_
        rintro e w' ⟨hb, (⟨q, _⟩ | ⟨_, q⟩ | ⟨k, _, _, q1, q2, _⟩)⟩
        · omega
        · exact ⟨q, hb⟩
        · omega
      clear hrd hnw
      go_enter Try.func19, Try.ntmps19
      go_wp2_with (first
        | (go_at_call 25; refine hat.out.mono ?_; rintro e1 w1 ⟨rfl, hc1, hb1⟩; have HC1 := Lib.hid hc1; have HB1 := Lib.hid hb1; clear hb1 hc1 hat)
        | (go_at_call 26; refine (hc.out w1 HC1.out).mono ?_; rintro e1 w2 ⟨rfl, hb2, hc2⟩; have HB2 := Lib.hid (HB1.out.trans hb2); have HC2 := Lib.hid hc2; clear hb2 hc2 hc)
        | (go_at_call 8; refine (hN2.out w2).mono ?_; rintro e1 w3 ⟨rfl, hb3⟩; have HB3 := Lib.hid (HB2.out.trans (hb3.mono (Nat.le_trans (Nat.le_of_eq HBX.out) (Nat.le_trans (Nat.le_of_eq HBX.out.symm) (Nat.le_trans (Nat.le_of_eq HBX.out) HB2.out.size))))); clear hb3 hN2))
      go_ret2
      exact ReadS.bad hR.out (by decide) (by rw [← HBX.out]; exact HB3.out)
    · have hR0 : Hid (Ls.rd S = ((Ls.rdT n (S.drop zn)).1, n, (Ls.rdT n (S.drop zn)).2)) := by show _ = _; rw [hrd.out, if_neg hn]
      have hnl : n ≤ 1048576 := by omega
      obtain ⟨q, hq⟩ : ∃ q, q = (n + 7) / 8 := ⟨_, rfl⟩
      have hN2 : Hid (∀ W, Calls Try.prog 8 #[.int .i64 (n : Int)] W fun e w' => ∃ p a c, e = .returned (.tuple #[.pointer (some ⟨p, 0, none⟩), .int .i64 0]) ∧ SetS w' W.heap.size p n [] (.slice a q c) ∧ Below W.heap.size W w') := fun W => by
        refine (hnw.out W).mono ?_
        rintro e w' ⟨hb, (⟨q, _⟩ | ⟨q, _⟩ | ⟨k, p, v, q1, q2, q3, q4⟩)⟩
        · omega
        · omega
        · obtain rfl : n = k := by omega
          obtain ⟨a, c, rfl, _⟩ := q4.bytes
          rw [← hq] at q4
          exact ⟨p, a, c, q3, q4, hb⟩
      obtain ⟨t, ht⟩ : ∃ t, rest s (zn : Int) = t := ⟨_, rfl⟩
      have htd : t.data.toList = S.drop zn := by rw [← ht, rest_data, HS.out]; rfl
      rw [ht] at hc
      obtain ⟨L, hL⟩ : ∃ L, L = t.size := ⟨_, rfl⟩
      have hTl : (S.drop zn).length = L := by rw [← htd, hL]; simp
      have hLs : L ≤ s.size := by rw [← hTl, List.length_drop]; omega
      have hq2 : q ≤ 131072 := by omega
      have HT : Hid (Ls.rdT n (S.drop zn) = if L < q then (2, []) else if q < L then (5, []) else if (∀ g ∈ Ls.ones (S.drop zn) (8 * L), g < n) then (0, Ls.ones (S.drop zn) (8 * L)) else (3, [])) := by
        show _ = _
        unfold Ls.rdT
        rw [hTl, hq]
      have HTD : Hid (t.data.toList = S.drop zn) := htd
      have HLT : Hid (t.size = L) := hL.symm
      clear hrd hnw hn hTl hq htd
      by_cases hl1 : L < q
      · have hR : Hid (Ls.rd S = (2, n, [])) := by show _ = _; rw [hR0.out, HT.out, if_pos hl1]
        have i1 : ((t.size : Nat) : Int) < (q : Int) := by rw [← hL]; omega
        clear hR0 HT hL
        go_enter Try.func19, Try.ntmps19
        go_wp2_with (first
          | (go_at_call 25; refine hat.out.mono ?_; rintro e1 w1 ⟨rfl, hc1, hb1⟩; have HC1 := Lib.hid hc1; have HB1 := Lib.hid hb1; clear hb1 hc1 hat)
          | (go_at_call 26; refine (hc.out w1 HC1.out).mono ?_; rintro e1 w2 ⟨rfl, hb2, hc2⟩; have HB2 := Lib.hid (HB1.out.trans hb2); have HC2 := Lib.hid hc2; clear hb2 hc2 hc)
          | (go_at_call 8; refine (hN2.out w2).mono ?_; rintro e1 w3 ⟨p, a3, c3, rfl, hs3, hb3⟩; have HN3 := Lib.hid hs3; have HB3 := Lib.hid (HB2.out.trans (hb3.mono (Nat.le_of_lt HC2.out.lt))); have HC3 := Lib.hid (HC2.out.below hb3 HC2.out.lt); obtain ⟨x0, x1, x2, _⟩ := tri_box hs3.box; clear hb3 hN2 hs3)
          | (go_at_call 27; refine (rest_any t b w3 HC3.out).mono ?_; rintro e1 w4 ⟨rfl, rfl⟩))
        go_ret2
        exact ReadS.bad hR.out (by decide) (by rw [← HBX.out]; exact HB3.out)
      · by_cases hl2 : q < L
        · have hR : Hid (Ls.rd S = (5, n, [])) := by show _ = _; rw [hR0.out, HT.out, if_neg hl1, if_pos hl2]
          have i1 : ¬ ((t.size : Nat) : Int) < (q : Int) := by rw [← hL]; omega
          have i2 : (q : Int) < ((t.size : Nat) : Int) := by rw [← hL]; omega
          clear hR0 HT hL
          go_enter Try.func19, Try.ntmps19
          go_wp2_with (first
            | (go_at_call 25; refine hat.out.mono ?_; rintro e1 w1 ⟨rfl, hc1, hb1⟩; have HC1 := Lib.hid hc1; have HB1 := Lib.hid hb1; clear hb1 hc1 hat)
            | (go_at_call 26; refine (hc.out w1 HC1.out).mono ?_; rintro e1 w2 ⟨rfl, hb2, hc2⟩; have HB2 := Lib.hid (HB1.out.trans hb2); have HC2 := Lib.hid hc2; clear hb2 hc2 hc)
            | (go_at_call 8; refine (hN2.out w2).mono ?_; rintro e1 w3 ⟨p, a3, c3, rfl, hs3, hb3⟩; have HN3 := Lib.hid hs3; have HB3 := Lib.hid (HB2.out.trans (hb3.mono (Nat.le_of_lt HC2.out.lt))); have HC3 := Lib.hid (HC2.out.below hb3 HC2.out.lt); obtain ⟨x0, x1, x2, _⟩ := tri_box hs3.box; clear hb3 hN2 hs3)
            | (go_at_call 27; refine (rest_any t b w3 HC3.out).mono ?_; rintro e1 w4 ⟨rfl, rfl⟩))
          go_ret2
          exact ReadS.bad hR.out (by decide) (by rw [← HBX.out]; exact HB3.out)
        · have hR : Hid (Ls.rd S = if (∀ g ∈ Ls.ones (S.drop zn) (8 * L), g < n) then (0, n, Ls.ones (S.drop zn) (8 * L)) else (3, n, [])) := by
            show _ = _
            rw [hR0.out, HT.out, if_neg hl1, if_neg hl2]
            split <;> rfl
          have i1 : ¬ ((t.size : Nat) : Int) < (q : Int) := by rw [← hL]; omega
          have i2 : ¬ (q : Int) < ((t.size : Nat) : Int) := by rw [← hL]; omega
          have hLq : L ≤ 131072 := by omega
          have HLQ : Hid (L ≤ 131072) := hLq
          obtain ⟨T, hT⟩ : ∃ T, T = S.drop zn := ⟨_, rfl⟩
          rw [← hT] at hR HTD
          have HCV : Hid (∀ W : World, ∃ a c w', (convert 9 47 (.string t)).run Try.prog W = .ok (.slice a t.size c) w' ∧ BitsAt w' (.slice a t.size c) t.size T (fun g => W.heap.size ≤ g) ∧ Below W.heap.size W w') := fun W => by
            rw [← HTD.out]
            exact conv_bits W t (by unfold maxLen; omega)
          clear hR0 HT hL hT hl1 hl2 hLq
          by_cases hok : ∀ g ∈ Ls.ones T (8 * L), g < n
          · have HOK := Lib.hid hok
            have hR2 : Hid (Ls.rd S = (0, n, Ls.ones T (8 * L))) := by show _ = _; rw [hR.out, if_pos hok]
            clear hok
            go_enter Try.func19, Try.ntmps19
            go_wp2_with (first
              | (go_at_call 25; refine hat.out.mono ?_; rintro e1 w1 ⟨rfl, hc1, hb1⟩; have HC1 := Lib.hid hc1; have HB1 := Lib.hid hb1; clear hb1 hc1 hat)
              | (go_at_call 26; refine (hc.out w1 HC1.out).mono ?_; rintro e1 w2 ⟨rfl, hb2, hc2⟩; have HB2 := Lib.hid (HB1.out.trans hb2); have HC2 := Lib.hid hc2; clear hb2 hc2 hc)
              | (go_at_call 8; refine (hN2.out w2).mono ?_; rintro e1 w3 ⟨p, a3, c3, rfl, hs3, hb3⟩; have HN3 := Lib.hid hs3; have HB3 := Lib.hid (HB2.out.trans (hb3.mono (Nat.le_of_lt HC2.out.lt))); have HC3 := Lib.hid (HC2.out.below hb3 HC2.out.lt); obtain ⟨x0, x1, x2, _⟩ := tri_box hs3.box; obtain ⟨a5, c5, w5, hcv5, ht5, hb5⟩ := HCV.out w3; have HT5 := Lib.hid ht5; have HB5 := Lib.hid hb5; clear hb3 hN2 hs3 ht5 hb5)
              | (go_at_call 27; refine (rest_any t b w3 HC3.out).mono ?_; rintro e1 w4 ⟨rfl, rfl⟩)
              | (go_at_call 28; refine (killAll_yes w5 w2.heap.size p n _ _ t.size T (HN3.out.below HB5.out) (by rw [HLT.out]; exact HLQ.out) (HT5.out.wide fun g hg => HN3.out.new hg) (by rw [HLT.out]; exact HOK.out)).mono ?_; rintro e1 w6 ⟨rfl, hb6, hs6⟩; have HB6 := Lib.hid (HB3.out.trans ((HB5.out.mono (show b ≤ w3.heap.size from Nat.le_of_lt HC3.out.lt)).trans (hb6.mono (Nat.le_of_lt HC2.out.lt)))); have HS6 := Lib.hid hs6; clear hb6 hs6))
            go_ret2
            rw [HLT.out] at HS6
            exact ⟨_, by rw [hR2.out]; rfl, by rw [← HBX.out]; exact HB6.out, .inr ⟨by rw [hR2.out], p, _, rfl, by rw [hR2.out]; exact HS6.out.base2 (by rw [← HBX.out]; exact Nat.le_of_lt HC2.out.lt)⟩⟩
          · have HOK := Lib.hid hok
            have hR2 : Hid (Ls.rd S = (3, n, [])) := by show _ = _; rw [hR.out, if_neg hok]
            clear hok
            go_enter Try.func19, Try.ntmps19
            go_wp2_with (first
              | (go_at_call 25; refine hat.out.mono ?_; rintro e1 w1 ⟨rfl, hc1, hb1⟩; have HC1 := Lib.hid hc1; have HB1 := Lib.hid hb1; clear hb1 hc1 hat)
              | (go_at_call 26; refine (hc.out w1 HC1.out).mono ?_; rintro e1 w2 ⟨rfl, hb2, hc2⟩; have HB2 := Lib.hid (HB1.out.trans hb2); have HC2 := Lib.hid hc2; clear hb2 hc2 hc)
              | (go_at_call 8; refine (hN2.out w2).mono ?_; rintro e1 w3 ⟨p, a3, c3, rfl, hs3, hb3⟩; have HN3 := Lib.hid hs3; have HB3 := Lib.hid (HB2.out.trans (hb3.mono (Nat.le_of_lt HC2.out.lt))); have HC3 := Lib.hid (HC2.out.below hb3 HC2.out.lt); obtain ⟨x0, x1, x2, _⟩ := tri_box hs3.box; obtain ⟨a5, c5, w5, hcv5, ht5, hb5⟩ := HCV.out w3; have HT5 := Lib.hid ht5; have HB5 := Lib.hid hb5; clear hb3 hN2 hs3 ht5 hb5)
              | (go_at_call 27; refine (rest_any t b w3 HC3.out).mono ?_; rintro e1 w4 ⟨rfl, rfl⟩)
              | (go_at_call 28; refine (killAll_no w5 w2.heap.size p n _ _ t.size T (HN3.out.below HB5.out) (by rw [HLT.out]; exact HLQ.out) (HT5.out.wide fun g hg => HN3.out.new hg) (by rw [HLT.out]; exact HOK.out)).mono ?_; rintro e1 w6 ⟨rfl, hb6⟩; have HB6 := Lib.hid (HB3.out.trans ((HB5.out.mono (show b ≤ w3.heap.size from Nat.le_of_lt HC3.out.lt)).trans (hb6.mono (Nat.le_of_lt HC2.out.lt)))); clear hb6))
            go_ret2
            exact ReadS.bad hR2.out (by decide) (by rw [← HBX.out]; exact HB6.out)
  · have hR : Hid (Ls.rd S = (e, 0, [])) := by
      show _ = _
      unfold Ls.rd
      rw [hr, if_pos he]
    have HE : Hid (e ≠ 0) := he
    have e1 : (e == 0) = false := by simpa using he
    clear hr
    go_enter Try.func19, Try.ntmps19
    go_wp2_with (first
      | (go_at_call 25; refine hat.out.mono ?_; rintro e1 w1 ⟨rfl, hc1, hb1⟩; have HC1 := Lib.hid hc1; have HB1 := Lib.hid hb1; clear hb1 hc1 hat)
      | (go_at_call 26; refine (hc.out w1 HC1.out).mono ?_; rintro e1 w2 ⟨rfl, hb2, hc2⟩; have HB2 := Lib.hid (HB1.out.trans hb2); clear hb2 hc2 hc))
    go_ret2
    exact ReadS.bad hR.out HE.out (by rw [← HBX.out]; exact HB2.out)
end Go.Proofs.Ytoppgecajibelaa
