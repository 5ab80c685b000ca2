/-
  A set and its copy, called by any script: the walk of the statement, over what is asked of the program's calls.
-/
import Derived.Test.YtoppgecajibelaaSi
import Derived.Deep.RegionHeld3
import Derived.Deep.DeepCutAuto
import Derived.Deep.CutBlock
namespace Go.Proofs.Ytoppgecajibelaa
open Go.RowKit
def CountC (M : Lies) (f : FuncId) : Prop := ∀ (w : World) (F : Nat → Prop) (p n : Nat) (G : List Nat), M w F p n G →
  Calls Try.prog f #[.pointer (some ⟨p, 0, none⟩)] w fun e w' => e = .returned (.tuple #[.int .i64 (n : Int), .int .i64 ((n : Int) - (G.length : Int))]) ∧ Below w.heap.size w w'
/-- What is asked of the program's package. -/
structure ProgC (M : Lies) : Prop where
  lies : LiesC M
  new : NewC M 8
  kill : KillC M 12
  live : LiveC M 15
  copy : CopyC M 10
  pack : PackC M 17
  count : CountC M 14
  read : ReadC M 19
  awake : ∀ w, Calls Try.prog 7 #[] w fun e w' => e = .returned (.bool true) ∧ Below w.heap.size w w'
/-- Steps of a script, where they lie. -/
def StepS (w : World) (v : Value) (S : List (Int × Int)) : Prop :=
  ∃ a cap, v = .slice a S.length cap ∧ S.length ≤ cap ∧ cap ≤ 9223372036854775807 ∧ (0 < S.length → ∃ g o, a = some ⟨g, o, none⟩ ∧ g < w.heap.size ∧ ∀ j (_ : j < S.length), w.cell? ⟨g, o + j * 2, none⟩ = some (.int .i64 S[j].1) ∧ w.cell? ⟨g, o + j * 2 + 1, none⟩ = some (.int .i64 S[j].2))
theorem step_box {w : World} {b : Nat} {x y : Int} (h : w.heap[b]? = some (.cells #[.int .i64 x, .int .i64 y] 34 (0, 0))) : w.cell? ⟨b, 0, none⟩ = some (.int .i64 x) ∧ w.cell? ⟨b, 1, none⟩ = some (.int .i64 y) := ⟨by simp [World.cell?, h], by simp [World.cell?, h]⟩
set_option maxRecDepth 100000 in
set_option maxHeartbeats 8000000 in
theorem plays15_walk (M : Lies) (hP : ProgC M) (w : World) (x : Int) (u : Value) (S : List (Int × Int)) (hS : StepS w u S) :
    Calls Try.prog 3 #[.int .i64 x, u] w fun e w' => e = .returned (.bool true) ∧ Below w.heap.size w w' := by
  have haw := Lib.hid hP.awake
  have HPC := Lib.hid hP
  have hnp := Lib.hid (fun W : World => hP.new W x)
  have hnr := Lib.hid (fun W : World => refF_new W x)
  obtain ⟨aS, cS, rfl, s1, s2, hsc⟩ := hS
  obtain ⟨m, hm⟩ : ∃ m, m = S.length := ⟨_, rfl⟩
  have HS := Lib.hid hsc
  have HM := Lib.hid hm
  rw [← hm] at s1 ⊢
  clear hsc hm hP
  by_cases hx3 : 3000 < x
  · clear hnp hnr
    go_enter Try.func3, Try.ntmps3
    go_wp2_with (first
      | (go_at_call 7; refine (haw.out w).mono ?_; rintro e1 w1 ⟨rfl, hb1⟩; have HB1 := Lib.hid hb1; clear hb1)
      | (go_at_call 7; refine (haw.out w1).mono ?_; rintro e1 w2 ⟨rfl, hb2⟩; have HB2 := Lib.hid (HB1.out.trans (hb2.mono HB1.out.size)); clear hb2))
    go_ret
    exact ⟨rfl, HB2.out⟩
  · by_cases hx0 : x < 0
    · have hNP : Hid (∀ W, Calls Try.prog 8 #[.int .i64 x] W fun e w' => e = .returned (.tuple #[.pointer none, .int .i64 1]) ∧ Below W.heap.size W w') := fun W => by
        refine (hnp.out W).mono ?_
        rintro e w' ⟨hb, (⟨_, q⟩ | ⟨q, _⟩ | ⟨n, F, p, q, _⟩)⟩
        · exact ⟨q, hb⟩
        · omega
        · omega
      have hNR : Hid (∀ W, Calls Try.prog 9 #[.int .i64 x] W fun e w' => e = .returned (.tuple #[.pointer none, .int .i64 1]) ∧ Below W.heap.size W w') := fun W => by
        refine (hnr.out W).mono ?_
        rintro e w' ⟨hb, (⟨_, q⟩ | ⟨q, _⟩ | ⟨n, F, p, q, _⟩)⟩
        · exact ⟨q, hb⟩
        · omega
        · omega
      clear hnp hnr
      go_enter Try.func3, Try.ntmps3
      go_wp2_with (first
        | (go_at_call 7; refine (haw.out w).mono ?_; rintro e1 w1 ⟨rfl, hb1⟩; have HB1 := Lib.hid hb1; clear hb1)
        | (go_at_call 8; refine (hNP.out w1).mono ?_; rintro e1 w2 ⟨rfl, hb2⟩; have HB2 := Lib.hid (HB1.out.trans (hb2.mono HB1.out.size)); clear hb2)
        | (go_at_call 9; refine (hNR.out w2).mono ?_; rintro e1 w3 ⟨rfl, hb3⟩; have HB3 := Lib.hid (HB2.out.trans (hb3.mono HB2.out.size)); clear hb3))
      go_ret
      exact ⟨rfl, HB3.out⟩
    · obtain ⟨n, rfl⟩ := Int.eq_ofNat_of_zero_le (show 0 ≤ x by omega)
      have hnl : n ≤ 3000 := by omega
      have hNP : Hid (∀ W, Calls Try.prog 8 #[.int .i64 (n : Int)] W fun e w' => ∃ F p, e = .returned (.tuple #[.pointer (some ⟨p, 0, none⟩), .int .i64 0]) ∧ M w' F p n [] ∧ (∀ k, F k → W.heap.size ≤ k) ∧ Below W.heap.size W w') := fun W => by
        refine (hnp.out W).mono ?_
        rintro e w' ⟨hb, (⟨q, _⟩ | ⟨q, _⟩ | ⟨n', F, p, q, _, q2, q3, q4⟩)⟩
        · omega
        · omega
        · obtain rfl : n = n' := by omega
          exact ⟨F, p, q2, q3, q4, hb⟩
      have hNR : Hid (∀ W, Calls Try.prog 9 #[.int .i64 (n : Int)] W fun e w' => ∃ F p, e = .returned (.tuple #[.pointer (some ⟨p, 0, none⟩), .int .i64 0]) ∧ RefF w' F p n [] ∧ (∀ k, F k → W.heap.size ≤ k) ∧ Below W.heap.size W w') := fun W => by
        refine (hnr.out W).mono ?_
        rintro e w' ⟨hb, (⟨q, _⟩ | ⟨q, _⟩ | ⟨n', F, p, q, _, q2, q3, q4⟩)⟩
        · omega
        · omega
        · obtain rfl : n = n' := by omega
          exact ⟨F, p, q2, q3, q4, hb⟩
      have hCP : Hid (CopyC M 10) := HPC.out.copy
      have hCR : Hid (CopyC RefF 11) := refF_copy
      have HL := Lib.hid HPC.out.lies
      clear hnp hnr
      go_enter Try.func3, Try.ntmps3
      go_wp2_with (first
        | (go_at_call 7; refine (haw.out w).mono ?_; rintro e1 w1 ⟨rfl, hb1⟩; have HB1 := Lib.hid hb1; clear hb1)
        | (go_at_call 8; refine (hNP.out w1).mono ?_; rintro e1 w2 ⟨F2, p2, rfl, hm2, hf2, hb2⟩; have HM2 := Lib.hid hm2; have HF2 := Lib.hid hf2; have HB2 := Lib.hid hb2; clear hm2 hf2 hb2)
        | (go_at_call 9; refine (hNR.out w2).mono ?_; rintro e1 w3 ⟨F3, p3, rfl, hm3, hf3, hb3⟩; have HM3 := Lib.hid hm3; have HF3 := Lib.hid hf3; have HB3 := Lib.hid hb3; have HM23 := Lib.hid (HL.out.keep HM2.out fun k hk => hb3.block k (HL.out.lt HM2.out k hk)); clear hm3 hf3 hb3)
        | (go_at_call 10; refine (hCP.out w3 _ p2 n [] HM23.out).mono ?_; rintro e1 w4 ⟨F4, p4, rfl, hm4, hf4, hb4⟩; have HM4 := Lib.hid hm4; have HF4 := Lib.hid hf4; have HB4 := Lib.hid hb4; have HM34 := Lib.hid (refF_lies.keep HM3.out fun k hk => hb4.block k (refF_lies.lt HM3.out k hk)); have HM24 := Lib.hid (HL.out.keep HM23.out fun k hk => hb4.block k (HL.out.lt HM23.out k hk)); clear hm4 hf4 hb4)
        | (go_at_call 11; refine (hCR.out w4 _ p3 n [] HM34.out).mono ?_; rintro e1 w5 ⟨F5, p5, rfl, hm5, hf5, hb5⟩; have HM5 := Lib.hid hm5; have HF5 := Lib.hid hf5; have HB5 := Lib.hid hb5; have HM35 := Lib.hid (refF_lies.keep HM34.out fun k hk => hb5.block k (refF_lies.lt HM34.out k hk)); have HM25 := Lib.hid (HL.out.keep HM24.out fun k hk => hb5.block k (HL.out.lt HM24.out k hk)); have HM45 := Lib.hid (HL.out.keep HM4.out fun k hk => hb5.block k (HL.out.lt HM4.out k hk)); clear hm5 hf5 hb5))
      have z1 := HB1.out.size
      have z2 := HB2.out.size
      have z3 := HB3.out.size
      have z4 := HB4.out.size
      have z5 := HB5.out.size
      have hold : Below w.heap.size w w5 := (((HB1.out.trans (HB2.out.mono (by omega))).trans (HB3.out.mono (by omega))).trans (HB4.out.mono (by omega))).trans (HB5.out.mono (by omega))
      obtain ⟨o, ho⟩ := st_first HL.out HM25.out HM45.out HM35.out HM5.out hold w2.heap.size w3.heap.size w4.heap.size (fun k hk => ⟨by have := HF2.out k hk; omega, HL.out.lt HM2.out k hk⟩) (fun k hk => ⟨HF3.out k hk, refF_lies.lt HM3.out k hk⟩) (fun k hk => ⟨HF4.out k hk, HL.out.lt HM4.out k hk⟩) (fun k hk => HF5.out k hk) (by omega) (by omega) (by omega)
      have HO := Lib.hid ho
      clear ho hold z1 z2 z3 z4 z5 HB1 HB2 HB3 HB4 HB5 HM2 HM3 HM4 HM5 HM23 HM24 HM25 HM34 HM35 HM45 HF2 HF3 HF4 HF5 hCP hCR hNP hNR haw
      go_loopg [9, 10, 11] m (fun g' c9 c10 iv wx => ∃ (j pc pv : Nat) (o : Nat → Nat) (Gs Gc : List Nat), j ≤ m ∧ g' = m - j ∧ iv = .int .i64 j ∧ c9 = .pointer (some ⟨pc, 0, none⟩) ∧ c10 = .pointer (some ⟨pv, 0, none⟩) ∧ Hid (St M w wx o p2 pc p3 pv n Gs Gc Gs Gc))
      case atStart => exact ⟨0, p4, p5, o, [], [], Nat.zero_le _, rfl, rfl, rfl, rfl, HO⟩
      case round =>
        clear HO
        obtain ⟨j, pc, pv, o, Gs, Gc, hj, rfl, rfl, rfl, rfl, HO⟩ := hrel
        by_cases hjm : j < m
        · have j2 : (j : Int) < (m : Int) := by omega
          by_cases hj2 : j < 200
          · have j3 : (j : Int) < 200 := by omega
            obtain ⟨gS, oS, rfl, hgS, hcS⟩ := HS.out (by rw [← HM.out]; omega)
            obtain ⟨q1, q2⟩ := hcS j (by rw [← HM.out]; exact hjm)
            have c1 := (HO.out.old.cell (p := ⟨gS, oS + j * 2, none⟩) hgS).trans q1
            have c2 := (HO.out.old.cell (p := ⟨gS, oS + j * 2 + 1, none⟩) hgS).trans q2
            have jS : j < S.length := by rw [← HM.out]; exact hjm
            clear hcS q1 q2
            generalize (S[j]'jS).1 = y at c1
            generalize (S[j]'jS).2 = d at c2
            go_upto_block 2 with (fail)
            obtain ⟨w2, hw2⟩ : ∃ w2, w2 = wr.alloc (.cells #[.int .i64 y, .int .i64 d] 34) := ⟨_, rfl⟩
            obtain ⟨bx, hbx⟩ : ∃ bx, bx = wr.heap.size := ⟨_, rfl⟩
            have HX2 : Hid (w2.heap[bx]? = some (.cells #[.int .i64 y, .int .i64 d] 34 (0, 0))) := by show _ = _; rw [hw2, hbx]; exact Go.Deep.blk_alloc_new _ _
            have HO2 : Hid (St M w w2 o p2 pc p3 pv n Gs Gc Gs Gc) := by show St M w w2 o p2 pc p3 pv n Gs Gc Gs Gc; rw [hw2]; exact HO.out.below HL.out ((Below.refl _ _).alloc (Nat.le_refl _) _)
            have HZ : Hid (o bx = 0) := by
              show _ = _
              rcases Nat.eq_zero_or_pos (o bx) with q | q
              · exact q
              · have := (HO.out.base bx (by omega)).2; omega
            rw [← hw2, ← hbx]
            clear hw2 hbx HO c1 c2
            go_cut [9, 10] (fun s9 s10 wx => ∃ (pc' pv' : Nat) (o' : Nat → Nat) (Gs' Gc' : List Nat), s9 = .pointer (some ⟨pc', 0, none⟩) ∧ s10 = .pointer (some ⟨pv', 0, none⟩) ∧ Hid (St M w wx o' p2 pc' p3 pv' n Gs' Gc' Gs' Gc') ∧ Hid (wx.heap[bx]? = some (.cells #[.int .i64 y, .int .i64 d] 34 (0, 0))))
            case first =>
              have k0 : w2.drew.cell? ⟨bx, 1, none⟩ = some (.int .i64 d) := (step_box HX2.out).2
              have HK0 := Lib.hid k0
              have HOD : Hid (St M w w2.drew o p2 pc p3 pv n Gs Gc Gs Gc) := HO2.out.below HL.out (Below.refl _ _).drew
              have hblt : Hid (bx < w2.drew.heap.size) := blk_lt HX2.out
              by_cases y0 : y = 0
              · subst y0
                obtain ⟨b, hb⟩ : ∃ b, b = Ls.lv n Gs d := ⟨_, rfl⟩
                have K1 : Hid (Calls Try.prog 12 #[.pointer (some ⟨p2, 0, none⟩), .int .i64 d] w2.drew fun e w' => e = .returned (.bool b) ∧ ∃ o', St M w w' o' p2 pc p3 pv n (Ls.kill n Gs d) Gc Gs Gc ∧ ∀ k, k < w2.drew.heap.size → o k = 0 → o' k = 0 ∧ w'.heap[k]? = w2.drew.heap[k]?) := by rw [hb]; exact HOD.out.kill_s HL.out HPC.out.kill d
                have K2 : Hid (∀ W o', St M w W o' p2 pc p3 pv n (Ls.kill n Gs d) Gc Gs Gc → Calls Try.prog 13 #[.pointer (some ⟨p3, 0, none⟩), .int .i64 d] W fun e w' => e = .returned (.bool b) ∧ ∃ o'', St M w w' o'' p2 pc p3 pv n (Ls.kill n Gs d) Gc (Ls.kill n Gs d) Gc ∧ ∀ k, k < W.heap.size → o' k = 0 → o'' k = 0 ∧ w'.heap[k]? = W.heap[k]?) := fun W o' h => by rw [hb]; exact h.kill_r HL.out d
                have eb : (b != b) = false := by simp
                clear hb HO2
                go_wp2_with fail
                go_region_held3 (fun W => W.cell? ⟨bx, 1, none⟩ = some (.int .i64 d)) (first | exact k0 | exact k1 | exact k2) (first
                  | (go_at_call 12; refine K1.out.mono ?_; rintro e1 w3 ⟨rfl, o1, hst1, hk1⟩; have ST1 := Lib.hid hst1; have HZ1 := Lib.hid (hk1 bx hblt.out HZ.out); have k1 := (blk_cell (a := ⟨bx, 1, none⟩) HZ1.out.2).trans HK0.out; have HX3 := Lib.hid (HZ1.out.2.trans HX2.out); clear hst1 hk1)
                  | (go_at_call 13; refine (K2.out _ _ ST1.out).mono ?_; rintro e1 w4 ⟨rfl, o2, hst2, hk2⟩; have ST2 := Lib.hid hst2; have HZ2 := Lib.hid (hk2 bx (blk_lt HX3.out) HZ1.out.1); have k2 := (blk_cell (a := ⟨bx, 1, none⟩) HZ2.out.2).trans k1; have HX4 := Lib.hid (HZ2.out.2.trans HX3.out); clear hst2 hk2))
                all_goals
                  go_wp2_with fail
                  go_meet
                  exact ⟨pc, pv, o2, (Ls.kill n Gs d), Gc, rfl, rfl, ST2, HX4⟩
              · have n0 : (y == 0) = false := by simpa using y0
                by_cases y1 : y = 1
                · subst y1
                  obtain ⟨b, hb⟩ : ∃ b, b = Ls.lv n Gc d := ⟨_, rfl⟩
                  have K1 : Hid (Calls Try.prog 12 #[.pointer (some ⟨pc, 0, none⟩), .int .i64 d] w2.drew fun e w' => e = .returned (.bool b) ∧ ∃ o', St M w w' o' p2 pc p3 pv n Gs (Ls.kill n Gc d) Gs Gc ∧ ∀ k, k < w2.drew.heap.size → o k = 0 → o' k = 0 ∧ w'.heap[k]? = w2.drew.heap[k]?) := by rw [hb]; exact HOD.out.kill_c HL.out HPC.out.kill d
                  have K2 : Hid (∀ W o', St M w W o' p2 pc p3 pv n Gs (Ls.kill n Gc d) Gs Gc → Calls Try.prog 13 #[.pointer (some ⟨pv, 0, none⟩), .int .i64 d] W fun e w' => e = .returned (.bool b) ∧ ∃ o'', St M w w' o'' p2 pc p3 pv n Gs (Ls.kill n Gc d) Gs (Ls.kill n Gc d) ∧ ∀ k, k < W.heap.size → o' k = 0 → o'' k = 0 ∧ w'.heap[k]? = W.heap[k]?) := fun W o' h => by rw [hb]; exact h.kill_v HL.out d
                  have eb : (b != b) = false := by simp
                  clear hb HO2
                  go_wp2_with fail
                  go_region_held3 (fun W => W.cell? ⟨bx, 1, none⟩ = some (.int .i64 d)) (first | exact k0 | exact k1 | exact k2) (first
                    | (go_at_call 12; refine K1.out.mono ?_; rintro e1 w3 ⟨rfl, o1, hst1, hk1⟩; have ST1 := Lib.hid hst1; have HZ1 := Lib.hid (hk1 bx hblt.out HZ.out); have k1 := (blk_cell (a := ⟨bx, 1, none⟩) HZ1.out.2).trans HK0.out; have HX3 := Lib.hid (HZ1.out.2.trans HX2.out); clear hst1 hk1)
                    | (go_at_call 13; refine (K2.out _ _ ST1.out).mono ?_; rintro e1 w4 ⟨rfl, o2, hst2, hk2⟩; have ST2 := Lib.hid hst2; have HZ2 := Lib.hid (hk2 bx (blk_lt HX3.out) HZ1.out.1); have k2 := (blk_cell (a := ⟨bx, 1, none⟩) HZ2.out.2).trans k1; have HX4 := Lib.hid (HZ2.out.2.trans HX3.out); clear hst2 hk2))
                  all_goals
                    go_wp2_with fail
                    go_meet
                    exact ⟨pc, pv, o2, Gs, (Ls.kill n Gc d), rfl, rfl, ST2, HX4⟩
                · have n1 : (y == 1) = false := by simpa using y1
                  by_cases y2 : y = 2
                  · subst y2
                    have K1 : Hid (Calls Try.prog 10 #[.pointer (some ⟨p2, 0, none⟩)] w2 fun e w' => ∃ p' o', e = .returned (.pointer (some ⟨p', 0, none⟩)) ∧ St M w w' o' p2 p' p3 pv n Gs Gs Gs Gc ∧ ∀ k, k < w2.heap.size → o k = 0 → o' k = 0 ∧ w'.heap[k]? = w2.heap[k]?) := HO2.out.copy_c HL.out HPC.out.copy
                    have K2 : Hid (∀ W o' p', St M w W o' p2 p' p3 pv n Gs Gs Gs Gc → Calls Try.prog 11 #[.pointer (some ⟨p3, 0, none⟩)] W fun e w' => ∃ p'' o'', e = .returned (.pointer (some ⟨p'', 0, none⟩)) ∧ St M w w' o'' p2 p' p3 p'' n Gs Gs Gs Gs ∧ ∀ k, k < W.heap.size → o' k = 0 → o'' k = 0 ∧ w'.heap[k]? = W.heap[k]?) := fun W o' p' h => h.copy_v HL.out
                    clear HO2 HOD HK0 k0
                    go_wp2_with (first
                      | (go_at_call 10; refine K1.out.mono ?_; rintro e1 w3 ⟨pc2, o1, rfl, hst1, hk1⟩; have ST1 := Lib.hid hst1; have HZ1 := Lib.hid (hk1 bx hblt.out HZ.out); have HX3 := Lib.hid (HZ1.out.2.trans HX2.out); clear hst1 hk1)
                      | (go_at_call 11; refine (K2.out _ _ _ ST1.out).mono ?_; rintro e1 w4 ⟨pv2, o2, rfl, hst2, hk2⟩; have ST2 := Lib.hid hst2; have HZ2 := Lib.hid (hk2 bx (blk_lt HX3.out) HZ1.out.1); have HX4 := Lib.hid (HZ2.out.2.trans HX3.out); clear hst2 hk2))
                    go_meet
                    exact ⟨pc2, pv2, o2, Gs, Gs, rfl, rfl, ST2, HX4⟩
                  · have n2 : (y == 2) = false := by simpa using y2
                    clear y0 y1 y2
                    go_wp2_with fail
                    go_meet
                    exact ⟨pc, pv, o, Gs, Gc, rfl, rfl, HO2, HX2⟩
            case rest =>
              obtain ⟨pc', pv', o', Gs', Gc', rfl, rfl, HO3, HX3⟩ := hcut
              clear HO2 HX2 HZ
              obtain ⟨Bw, vw, hRw, _⟩ := HO3.out.r
              obtain ⟨Bv, vv, hRv, _⟩ := HO3.out.v
              obtain ⟨aw, cw, hvw⟩ := hRw.own.form
              obtain ⟨av, cv, hvv⟩ := hRv.own.form
              rw [List.length_map] at hvw hvv
              have hlw := hRw.ok.len
              have hlv := hRv.ok.len
              obtain ⟨_, xw, _⟩ := set_box hRw.box
              obtain ⟨_, xv, _⟩ := set_box hRv.box
              have pwl := blk_lt hRw.box
              have pvl := blk_lt hRv.box
              subst hvw hvv
              obtain ⟨lw, hlwz⟩ : ∃ lw, lw = Gs'.length := ⟨_, rfl⟩
              obtain ⟨lv, hlvz⟩ : ∃ lv, lv = Gc'.length := ⟨_, rfl⟩
              rw [← hlwz] at xw hlw
              rw [← hlvz] at xv hlv
              have HB3 : Hid (∀ W, Below wc.heap.size wc W → St M w W o' p2 pc' p3 pv' n Gs' Gc' Gs' Gc') := fun W hW => HO3.out.below HL.out hW
              have HK : Hid (∀ W, Below wc.heap.size wc W → W.cell? ⟨bx, 1, none⟩ = some (.int .i64 d) ∧ W.cell? ⟨p3, 1, none⟩ = some (.slice aw lw cw) ∧ W.cell? ⟨pv', 1, none⟩ = some (.slice av lv cv)) := fun W hW => ⟨(hW.cell (p := ⟨bx, 1, none⟩) (blk_lt HX3.out)).trans (step_box HX3.out).2, (hW.cell (p := ⟨p3, 1, none⟩) pwl).trans xw, (hW.cell (p := ⟨pv', 1, none⟩) pvl).trans xv⟩
              have C1 : Hid (∀ W, Below wc.heap.size wc W → Calls Try.prog 14 #[.pointer (some ⟨p2, 0, none⟩)] W fun e w' => e = .returned (.tuple #[.int .i64 (n : Int), .int .i64 ((n : Int) - (lw : Int))]) ∧ Below W.heap.size W w') := fun W hW => by rw [hlwz]; exact HPC.out.count W _ p2 n Gs' (HB3.out W hW).s
              have C2 : Hid (∀ W, Below wc.heap.size wc W → Calls Try.prog 14 #[.pointer (some ⟨pc', 0, none⟩)] W fun e w' => e = .returned (.tuple #[.int .i64 (n : Int), .int .i64 ((n : Int) - (lv : Int))]) ∧ Below W.heap.size W w') := fun W hW => by rw [hlvz]; exact HPC.out.count W _ pc' n Gc' (HB3.out W hW).c
              obtain ⟨b1, hb1⟩ : ∃ b, b = Ls.lv n Gs' d := ⟨_, rfl⟩
              obtain ⟨b2, hb2⟩ : ∃ b, b = Ls.lv n Gc' d := ⟨_, rfl⟩
              have L1 : Hid (∀ W, Below wc.heap.size wc W → Calls Try.prog 15 #[.pointer (some ⟨p2, 0, none⟩), .int .i64 d] W fun e w' => e = .returned (.bool b1) ∧ Below W.heap.size W w') := fun W hW => by rw [hb1]; exact HPC.out.live W _ p2 n Gs' d (HB3.out W hW).s
              have L2 : Hid (∀ W, Below wc.heap.size wc W → Calls Try.prog 16 #[.pointer (some ⟨p3, 0, none⟩), .int .i64 d] W fun e w' => e = .returned (.bool b1) ∧ Below W.heap.size W w') := fun W hW => by rw [hb1]; exact refF_live W _ p3 n Gs' d (HB3.out W hW).r
              have L3 : Hid (∀ W, Below wc.heap.size wc W → Calls Try.prog 15 #[.pointer (some ⟨pc', 0, none⟩), .int .i64 d] W fun e w' => e = .returned (.bool b2) ∧ Below W.heap.size W w') := fun W hW => by rw [hb2]; exact HPC.out.live W _ pc' n Gc' d (HB3.out W hW).c
              have L4 : Hid (∀ W, Below wc.heap.size wc W → Calls Try.prog 16 #[.pointer (some ⟨pv', 0, none⟩), .int .i64 d] W fun e w' => e = .returned (.bool b2) ∧ Below W.heap.size W w') := fun W hW => by rw [hb2]; exact refF_live W _ pv' n Gc' d (HB3.out W hW).v
              have e1 : (b1 != b1) = false := by simp
              have e2 : (b2 != b2) = false := by simp
              have f1 : IntKind.i64.wrap ((n : Int) - (lw : Int)) = (n : Int) - (lw : Int) := IntWalk.i64_in _ (by omega)
              have f2 : IntKind.i64.wrap ((n : Int) - (lv : Int)) = (n : Int) - (lv : Int) := IntWalk.i64_in _ (by omega)
              clear hRw hRv xw xv pwl pvl hlwz hlvz hb1 hb2 HO3 HX3 hlw hlv
              go_wp2_with (first
                | (go_at_call 14; refine (C1.out wc (Below.refl _ _)).mono ?_; rintro e1 w6 ⟨rfl, hb6⟩; have HB6 := Lib.hid hb6; clear hb6 C1)
                | (go_at_call 14; refine (C2.out w6 HB6.out).mono ?_; rintro e1 w7 ⟨rfl, hb7⟩; have HB7 := Lib.hid (HB6.out.trans (hb7.mono HB6.out.size)); have HBD := Lib.hid (HB6.out.trans (hb7.mono HB6.out.size)).drew; clear hb7 C2))
              have g7 := HK.out _ HBD.out
              go_region_held3 (fun W => W.cell? ⟨bx, 1, none⟩ = some (.int .i64 d) ∧ W.cell? ⟨p3, 1, none⟩ = some (.slice aw lw cw) ∧ W.cell? ⟨pv', 1, none⟩ = some (.slice av lv cv)) (first | exact g7 | exact g8 | exact g9 | exact g10 | exact g11) (first
                | (go_at_call 15; refine (L1.out _ HBD.out).mono ?_; rintro e1 w8 ⟨rfl, hb8⟩; have HB8 := Lib.hid (HBD.out.trans (hb8.mono HBD.out.size)); have g8 := HK.out _ HB8.out; clear hb8 L1)
                | (go_at_call 16; refine (L2.out _ HB8.out).mono ?_; rintro e1 w9 ⟨rfl, hb9⟩; have HB9 := Lib.hid (HB8.out.trans (hb9.mono HB8.out.size)); have g9 := HK.out _ HB9.out; clear hb9 L2)
                | (go_at_call 15; refine (L3.out _ HB9.out).mono ?_; rintro e1 w10 ⟨rfl, hb10⟩; have HB10 := Lib.hid (HB9.out.trans (hb10.mono HB9.out.size)); have g10 := HK.out _ HB10.out; clear hb10 L3)
                | (go_at_call 16; refine (L4.out _ HB10.out).mono ?_; rintro e1 w11 ⟨rfl, hb11⟩; have HB11 := Lib.hid (HB10.out.trans (hb11.mono HB10.out.size)); have g11 := HK.out _ HB11.out; clear hb11 L4))
              all_goals
                go_wp2_with fail
                go_roundg (m - (j + 1))
                case rel => exact ⟨j + 1, pc', pv', o', Gs', Gc', by omega, rfl, by go_num, rfl, rfl, HB3.out _ HB11.out⟩
                case measure => omega
          · have j3 : ¬ (j : Int) < 200 := by omega
            have j4 : j < m := hjm
            have HL2 : Hid (∀ W, Below wr.heap.size wr W → St M w W o p2 pc p3 pv n Gs Gc Gs Gc) := fun W hW => HO.out.below HL.out hW
            have hPP := Lib.hid HPC.out.pack
            have hPR := Lib.hid refF_pack
            obtain ⟨TS, hTS⟩ : ∃ T : ByteArray, T = ⟨(Ls.pack n Gs).toArray⟩ := ⟨_, rfl⟩
            obtain ⟨TC, hTC⟩ : ∃ T : ByteArray, T = ⟨(Ls.pack n Gc).toArray⟩ := ⟨_, rfl⟩
            have P1 : Hid (∀ W, Below wr.heap.size wr W → Calls Try.prog 17 #[.pointer (some ⟨p2, 0, none⟩)] W fun e w' => e = .returned (.string TS) ∧ Below W.heap.size W w') := fun W hW => by rw [hTS]; exact hPP.out W _ p2 n Gs (HL2.out W hW).s
            have P2 : Hid (∀ W, Below wr.heap.size wr W → Calls Try.prog 18 #[.pointer (some ⟨p3, 0, none⟩)] W fun e w' => e = .returned (.string TS) ∧ Below W.heap.size W w') := fun W hW => by rw [hTS]; exact hPR.out W _ p3 n Gs (HL2.out W hW).r
            have P3 : Hid (∀ W, Below wr.heap.size wr W → Calls Try.prog 17 #[.pointer (some ⟨pc, 0, none⟩)] W fun e w' => e = .returned (.string TC) ∧ Below W.heap.size W w') := fun W hW => by rw [hTC]; exact hPP.out W _ pc n Gc (HL2.out W hW).c
            have P4 : Hid (∀ W, Below wr.heap.size wr W → Calls Try.prog 18 #[.pointer (some ⟨pv, 0, none⟩)] W fun e w' => e = .returned (.string TC) ∧ Below W.heap.size W w') := fun W hW => by rw [hTC]; exact hPR.out W _ pv n Gc (HL2.out W hW).v
            have eS : (TS.toList == TS.toList) = true := by simp
            have eC : (TC.toList == TC.toList) = true := by simp
            have HOL := Lib.hid HO.out.old
            clear hTS hTC hPP hPR HL2 HO
            go_wp2_with (first
              | (go_at_call 17; refine (P1.out wr (Below.refl _ _)).mono ?_; rintro e1 w6 ⟨rfl, hb6⟩; have HB6 := Lib.hid hb6; clear hb6 P1)
              | (go_at_call 18; refine (P2.out w6 HB6.out).mono ?_; rintro e1 w7 ⟨rfl, hb7⟩; have HB7 := Lib.hid (HB6.out.trans (hb7.mono HB6.out.size)); clear hb7 P2)
              | (go_at_call 17; refine (P3.out w7 HB7.out).mono ?_; rintro e1 w8 ⟨rfl, hb8⟩; have HB8 := Lib.hid (HB7.out.trans (hb8.mono HB7.out.size)); clear hb8 P3)
              | (go_at_call 18; refine (P4.out w8 HB8.out).mono ?_; rintro e1 w9 ⟨rfl, hb9⟩; have HB9 := Lib.hid (HB8.out.trans (hb9.mono HB8.out.size)); clear hb9 P4))
            go_ret
            exact ⟨rfl, HOL.out.trans (HB9.out.mono HOL.out.size)⟩
        · have j2 : ¬ (j : Int) < (m : Int) := by omega
          have HL2 : Hid (∀ W, Below wr.heap.size wr W → St M w W o p2 pc p3 pv n Gs Gc Gs Gc) := fun W hW => HO.out.below HL.out hW
          have hPP := Lib.hid HPC.out.pack
          have hPR := Lib.hid refF_pack
          obtain ⟨TS, hTS⟩ : ∃ T : ByteArray, T = ⟨(Ls.pack n Gs).toArray⟩ := ⟨_, rfl⟩
          obtain ⟨TC, hTC⟩ : ∃ T : ByteArray, T = ⟨(Ls.pack n Gc).toArray⟩ := ⟨_, rfl⟩
          have P1 : Hid (∀ W, Below wr.heap.size wr W → Calls Try.prog 17 #[.pointer (some ⟨p2, 0, none⟩)] W fun e w' => e = .returned (.string TS) ∧ Below W.heap.size W w') := fun W hW => by rw [hTS]; exact hPP.out W _ p2 n Gs (HL2.out W hW).s
          have P2 : Hid (∀ W, Below wr.heap.size wr W → Calls Try.prog 18 #[.pointer (some ⟨p3, 0, none⟩)] W fun e w' => e = .returned (.string TS) ∧ Below W.heap.size W w') := fun W hW => by rw [hTS]; exact hPR.out W _ p3 n Gs (HL2.out W hW).r
          have P3 : Hid (∀ W, Below wr.heap.size wr W → Calls Try.prog 17 #[.pointer (some ⟨pc, 0, none⟩)] W fun e w' => e = .returned (.string TC) ∧ Below W.heap.size W w') := fun W hW => by rw [hTC]; exact hPP.out W _ pc n Gc (HL2.out W hW).c
          have P4 : Hid (∀ W, Below wr.heap.size wr W → Calls Try.prog 18 #[.pointer (some ⟨pv, 0, none⟩)] W fun e w' => e = .returned (.string TC) ∧ Below W.heap.size W w') := fun W hW => by rw [hTC]; exact hPR.out W _ pv n Gc (HL2.out W hW).v
          have eS : (TS.toList == TS.toList) = true := by simp
          have eC : (TC.toList == TC.toList) = true := by simp
          have HOL := Lib.hid HO.out.old
          clear hTS hTC hPP hPR HL2 HO
          go_wp2_with (first
            | (go_at_call 17; refine (P1.out wr (Below.refl _ _)).mono ?_; rintro e1 w6 ⟨rfl, hb6⟩; have HB6 := Lib.hid hb6; clear hb6 P1)
            | (go_at_call 18; refine (P2.out w6 HB6.out).mono ?_; rintro e1 w7 ⟨rfl, hb7⟩; have HB7 := Lib.hid (HB6.out.trans (hb7.mono HB6.out.size)); clear hb7 P2)
            | (go_at_call 17; refine (P3.out w7 HB7.out).mono ?_; rintro e1 w8 ⟨rfl, hb8⟩; have HB8 := Lib.hid (HB7.out.trans (hb8.mono HB7.out.size)); clear hb8 P3)
            | (go_at_call 18; refine (P4.out w8 HB8.out).mono ?_; rintro e1 w9 ⟨rfl, hb9⟩; have HB9 := Lib.hid (HB8.out.trans (hb9.mono HB8.out.size)); clear hb9 P4))
          go_ret
          exact ⟨rfl, HOL.out.trans (HB9.out.mono HOL.out.size)⟩
end Go.Proofs.Ytoppgecajibelaa
