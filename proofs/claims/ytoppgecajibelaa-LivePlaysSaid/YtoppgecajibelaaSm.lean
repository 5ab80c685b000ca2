/-
  A packed set is read back: the walk of the statement, over what is asked of the program's calls.
-/
import Derived.Test.YtoppgecajibelaaSl
namespace Go.Proofs.Ytoppgecajibelaa
open Go.RowKit
theorem arr_len' (s : ByteArray) : s.data.toList.length = s.size := by simp
theorem Ls.kill_len {n : Nat} {G : List Nat} (h : Ls.Ok n G) (x : Int) : (Ls.kill n G x).length ≤ n := (Ls.kill_ok h x).len
set_option maxRecDepth 100000 in
set_option maxHeartbeats 8000000 in
theorem back15_walk (M : Lies) (hP : ProgC M) (w : World) (x : Int) (u : Value) (S : List Int) (more : ByteArray) (hS : IntS w u S) (hmo : more.size ≤ 140737488351232) :
    Calls Try.prog 5 #[.int .i64 x, u, .string more] w fun e w' => e = .returned (.bool true) ∧ Below w.heap.size w w' := by
  have haw := Lib.hid hP.awake
  have HPC := Lib.hid hP
  have HL := Lib.hid hP.lies
  have hnp := Lib.hid (fun W : World => hP.new W x)
  obtain ⟨aS, cS, rfl, s1, s2, hsc⟩ := hS
  obtain ⟨m, hm⟩ : ∃ m, m = S.length := ⟨_, rfl⟩
  have HS := Lib.hid hsc
  have HM := Lib.hid hm
  rw [← hm] at s1 ⊢
  clear hsc hm hP
  by_cases hx : x < 0 ∨ 3000 < x
  · clear hnp
    rcases hx with hx | hx
    · go_enter Try.func5, Try.ntmps5
      go_wp2_with (first
        | (go_at_call 7; refine (haw.out w).mono ?_; rintro e1 w1 ⟨rfl, hb1⟩; have HB1 := Lib.hid hb1; clear hb1)
        | (go_at_call 7; refine (haw.out w1).mono ?_; rintro e1 w2 ⟨rfl, hb2⟩; have HB2 := Lib.hid (HB1.out.trans (hb2.mono HB1.out.size)); clear hb2))
      go_ret
      exact ⟨rfl, HB2.out⟩
    · have hx2 : ¬ x < 0 := by omega
      go_enter Try.func5, Try.ntmps5
      go_wp2_with (first
        | (go_at_call 7; refine (haw.out w).mono ?_; rintro e1 w1 ⟨rfl, hb1⟩; have HB1 := Lib.hid hb1; clear hb1)
        | (go_at_call 7; refine (haw.out w1).mono ?_; rintro e1 w2 ⟨rfl, hb2⟩; have HB2 := Lib.hid (HB1.out.trans (hb2.mono HB1.out.size)); clear hb2))
      go_ret
      exact ⟨rfl, HB2.out⟩
  · have hx1 : ¬ x < 0 := fun q => hx (.inl q)
    have hx2 : ¬ 3000 < x := fun q => hx (.inr q)
    clear hx
    obtain ⟨n, rfl⟩ := Int.eq_ofNat_of_zero_le (show 0 ≤ x by omega)
    have hnl : n ≤ 3000 := by omega
    have hNP : Hid (∀ W, Calls Try.prog 8 #[.int .i64 (n : Int)] W fun e w' => ∃ F p, e = .returned (.tuple #[.pointer (some ⟨p, 0, none⟩), .int .i64 0]) ∧ M w' F p n [] ∧ (∀ k, F k → W.heap.size ≤ k) ∧ Below W.heap.size W w') := fun W => by
      refine (hnp.out W).mono ?_
      rintro e w' ⟨hb, (⟨q, _⟩ | ⟨q, _⟩ | ⟨n', F, p, q, _, q2, q3, q4⟩)⟩
      · omega
      · omega
      · obtain rfl : n = n' := by omega
        exact ⟨F, p, q2, q3, q4, hb⟩
    clear hnp
    go_enter Try.func5, Try.ntmps5
    go_wp2_with (first
      | (go_at_call 7; refine (haw.out w).mono ?_; rintro e1 w1 ⟨rfl, hb1⟩; have HB1 := Lib.hid hb1; clear hb1)
      | (go_at_call 8; refine (hNP.out w1).mono ?_; rintro e1 w2 ⟨F2, p, rfl, hm2, hf2, hb2⟩; have HM2 := Lib.hid hm2; have HF2 : Hid (∀ k, F2 k → w.heap.size ≤ k) := (fun k hk => Nat.le_trans HB1.out.size (hf2 k hk)); have HB2 := Lib.hid (HB1.out.trans (hb2.mono HB1.out.size)); clear hm2 hf2 hb2 hNP))
    go_loopg [9] m (fun g' iv wx => ∃ (j : Nat) (F : Nat → Prop) (G : List Nat), j ≤ m ∧ g' = m - j ∧ iv = .int .i64 j ∧ Hid (M wx F p n G) ∧ Hid (∀ k, F k → w.heap.size ≤ k) ∧ Hid (Below w.heap.size w wx))
    case atStart => exact ⟨0, F2, [], Nat.zero_le _, rfl, rfl, HM2, HF2, HB2⟩
    case round =>
      clear HM2 HF2 HB2 HB1
      obtain ⟨j, F, G, hj, rfl, rfl, HMx, HF, HB⟩ := hrel
      by_cases hjm : j < m
      · have j2 : (j : Int) < (m : Int) := by omega
        obtain ⟨gS, oS, rfl, hgS, hcS⟩ := HS.out (by rw [← HM.out]; omega)
        have c1 := (HB.out.cell (p := ⟨gS, oS + j, none⟩) hgS).trans (hcS j (by rw [← HM.out]; exact hjm))
        clear hcS
        have jS : j < S.length := by rw [← HM.out]; exact hjm
        generalize S[j]'jS = d at c1
        have hK := Lib.hid (HPC.out.kill wr F p n G d HMx.out)
        go_wp2_with (go_at_call 12; refine hK.out.mono ?_; rintro e1 w3 ⟨rfl, F3, hm3, hk3, hf3⟩; have HM3 := Lib.hid hm3; have HF3 : Hid (∀ k, F3 k → w.heap.size ≤ k) := (fun k hk => (hf3 k hk).elim (HF.out k) (fun q => Nat.le_trans HB.out.size q)); have HB3 := Lib.hid (KeptF.below HB.out hk3 HF.out HB.out.size); clear hm3 hk3 hf3 hK)
        go_roundg (m - (j + 1))
        case rel => exact ⟨j + 1, F3, _, by omega, rfl, by go_num, HM3, HF3, HB3⟩
        case measure => omega
      · obtain rfl : j = m := by omega
        obtain ⟨hok, hn1⟩ := HL.out.ok HMx.out
        obtain ⟨H, hrd, hokH, hmem⟩ := Ls.rd_back hok hn1
        have hlen := Ls.same_len hok.nd hokH.nd hmem
        have hgl := hok.len
        obtain ⟨TS, hTS⟩ : ∃ T : ByteArray, T = ⟨(Ls.pack n G).toArray⟩ := ⟨_, rfl⟩
        have hTd : TS.data.toList = Ls.pack n G := by rw [hTS]
        have hTl : TS.size ≤ 400 := by
          rw [← arr_len', hTd]
          have := Ls.pack_len n G
          omega
        have hcat : (TS ++ more).data.toList = Ls.pack n G ++ more.data.toList := by rw [ByteArray.data_append, Array.toList_append, hTd]
        have hcl : (TS ++ more).size ≤ 140737488353280 := by rw [ByteArray.size_append]; omega
        have hno : ¬ 9223372036854775807 < TS.size + more.size := by omega
        obtain ⟨Q, hQ⟩ : ∃ Q, TS ++ more = Q := ⟨_, rfl⟩
        rw [hQ] at hcat hcl
        have PP : Hid (∀ W, M W F p n G → Calls Try.prog 17 #[.pointer (some ⟨p, 0, none⟩)] W fun e w' => e = .returned (.string TS) ∧ Below W.heap.size W w') := fun W h => by rw [hTS]; exact HPC.out.pack W F p n G h
        have RT : Hid (∀ W, Calls Try.prog 19 #[.string TS] W fun e w' => ∃ F' p', e = .returned (.tuple #[.pointer (some ⟨p', 0, none⟩), .int .i64 0]) ∧ M w' F' p' n H ∧ (∀ k, F' k → W.heap.size ≤ k) ∧ Below W.heap.size W w') := fun W => by
          refine (HPC.out.read W TS (by omega)).mono ?_
          rw [hTd, hrd]
          rintro e w' ⟨P, h1, h2, (⟨h3, _⟩ | ⟨_, F', p', h4, h5, h6⟩)⟩
          · exact absurd rfl h3
          · exact ⟨F', p', by rw [h1, h4], h5, h6, h2⟩
        have RQ : Hid (∀ W, Calls Try.prog 19 #[.string Q] W fun e w' => ∃ P y, e = .returned (.tuple #[P, .int .i64 y]) ∧ (0 < more.size → y = 5) ∧ Below W.heap.size W w') := fun W => by
          refine (HPC.out.read W Q hcl).mono ?_
          rintro e w' ⟨P, h1, h2, _⟩
          refine ⟨P, _, h1, fun h0 => ?_, h2⟩
          rw [hcat]
          refine Ls.rd_tail hok hn1 _ (fun q => ?_)
          have : more.data.toList.length = more.size := arr_len' more
          rw [q] at this
          simp at this
          omega
        have HMX := Lib.hid HMx.out
        obtain ⟨gl, hglz⟩ : ∃ gl, gl = G.length := ⟨_, rfl⟩
        have CS : Hid (∀ W, M W F p n G → Calls Try.prog 14 #[.pointer (some ⟨p, 0, none⟩)] W fun e w' => e = .returned (.tuple #[.int .i64 (n : Int), .int .i64 ((n : Int) - (gl : Int))]) ∧ Below W.heap.size W w') := fun W h => by rw [hglz]; exact HPC.out.count W F p n G h
        have CT : Hid (∀ W F' p', M W F' p' n H → Calls Try.prog 14 #[.pointer (some ⟨p', 0, none⟩)] W fun e w' => e = .returned (.tuple #[.int .i64 (n : Int), .int .i64 ((n : Int) - (gl : Int))]) ∧ Below W.heap.size W w') := fun W F' p' h => by rw [hglz, ← hlen]; exact HPC.out.count W F' p' n H h
        have LS : Hid (∀ W (d : Int), M W F p n G → Calls Try.prog 15 #[.pointer (some ⟨p, 0, none⟩), .int .i64 d] W fun e w' => e = .returned (.bool (Ls.lv n G d)) ∧ Below W.heap.size W w') := fun W d h => HPC.out.live W F p n G d h
        have LT : Hid (∀ W F' p' (d : Int), M W F' p' n H → Calls Try.prog 15 #[.pointer (some ⟨p', 0, none⟩), .int .i64 d] W fun e w' => e = .returned (.bool (Ls.lv n G d)) ∧ Below W.heap.size W w') := fun W F' p' d h => by rw [← Ls.lv_same hmem]; exact HPC.out.live W F' p' n H d h
        have hcnt : Hid (Ls.cnt n G (n + 1) + gl = n) := by show _ = _; rw [hglz]; exact Ls.cnt_all hok
        have hneg : Hid (Ls.lv n G (-1) = false) := decide_eq_false fun q => by omega
        have KK : Hid (∀ W F p G (d : Int), M W F p n G → Calls Try.prog 12 #[.pointer (some ⟨p, 0, none⟩), .int .i64 d] W fun e w' => e = .returned (.bool (Ls.lv n G d)) ∧ ∃ F', M w' F' p n (Ls.kill n G d) ∧ KeptF F W w' ∧ ∀ k, F' k → F k ∨ W.heap.size ≤ k) := fun W F p G d h => HPC.out.kill W F p n G d h
        have HD : Hid (∀ k, F k → k < wr.heap.size) := HL.out.lt HMx.out
        have HL0 : Hid (∀ k, wr.heap.size ≤ k → w.heap.size ≤ k) := fun k hk => Nat.le_trans HB.out.size hk
        have keepS : Hid (∀ W W', M W F p n G → Below W.heap.size W W' → M W' F p n G) := fun W W' h hb => HL.out.keep h fun k hk => hb.block k (HL.out.lt h k hk)
        have keepT : Hid (∀ W W' F' p', M W F' p' n H → Below W.heap.size W W' → M W' F' p' n H) := fun W W' F' p' h hb => HL.out.keep h fun k hk => hb.block k (HL.out.lt h k hk)
        clear hok hn1 hrd hokH hmem hlen hTS hTd hcat hcl hglz HMx
        obtain ⟨D0, hD0⟩ : ∃ D, D = wr.heap.size := ⟨_, rfl⟩
        rw [← hD0] at HD HL0
        have HDZ : Hid (D0 = wr.heap.size) := hD0
        clear hD0
        go_upto_region 12 with (first
          | (go_at_call 17; refine (PP.out wr HMX.out).mono ?_; rintro e1 w3 ⟨rfl, hb3⟩; have HB3 := Lib.hid (HB.out.trans (hb3.mono HB.out.size)); have HM3 := Lib.hid (keepS.out _ _ HMX.out hb3); have HZ3 := Lib.hid hb3.size; have PQ := Lib.hid (fun W h => PP.out W h); clear hb3 PP)
          | (go_at_call 19; refine (RT.out w3).mono ?_; rintro e1 w4 ⟨F4, pt, rfl, ht4, hf4, hb4⟩; have HB4 := Lib.hid (HB3.out.trans (hb4.mono HB3.out.size)); have HM4 := Lib.hid (keepS.out _ _ HM3.out hb4); have HT4 := Lib.hid ht4; have HF4 : Hid (∀ k, F4 k → D0 ≤ k) := (fun k hk => HDZ.out ▸ Nat.le_trans HZ3.out (hf4 k hk)); clear hb4 ht4 hf4 RT)
          | (go_at_call 17; refine (PQ.out w4 HM4.out).mono ?_; rintro e1 w5 ⟨rfl, hb5⟩; have HB5 := Lib.hid (HB4.out.trans (hb5.mono HB4.out.size)); have HM5 := Lib.hid (keepS.out _ _ HM4.out hb5); have HT5 := Lib.hid (keepT.out _ _ _ _ HT4.out hb5); clear hb5 PQ)
          | (go_at_call 19; refine (RQ.out w5).mono ?_; rintro e1 w6 ⟨P6, y6, rfl, hy6, hb6⟩; have HB6 := Lib.hid (HB5.out.trans (hb6.mono HB5.out.size)); have HM6 := Lib.hid (keepS.out _ _ HM5.out hb6); have HT6 := Lib.hid (keepT.out _ _ _ _ HT5.out hb6); have HY6 := Lib.hid hy6; clear hb6 hy6 RQ))
        go_cut [75] (fun s75 wx => s75 = .bool false ∧ wx = w6)
        case first =>
          by_cases hm0 : more.size = 0
          · have hT := empty_true more hm0
            go_wp2_with fail
            go_meet
            exact ⟨rfl, rfl⟩
          · have hT := empty_false more (by omega)
            have hy := HY6.out (by omega)
            subst hy
            go_wp2_with fail
            go_meet
            exact ⟨rfl, rfl⟩
        case rest =>
          obtain ⟨rfl, rfl⟩ := hcut
          go_wp2_with (first
            | (go_at_call 14; refine (CS.out _ HM6.out).mono ?_; rintro e1 w7 ⟨rfl, hb7⟩; have HB7 := Lib.hid (HB6.out.trans (hb7.mono HB6.out.size)); have HM7 := Lib.hid (keepS.out _ _ HM6.out hb7); have HT7 := Lib.hid (keepT.out _ _ _ _ HT6.out hb7); have CU := Lib.hid (fun W h => CS.out W h); clear hb7 CS)
            | (go_at_call 14; refine (CT.out w7 _ _ HT7.out).mono ?_; rintro e1 w8 ⟨rfl, hb8⟩; have HB8 := Lib.hid (HB7.out.trans (hb8.mono HB7.out.size)); have HM8 := Lib.hid (keepS.out _ _ HM7.out hb8); have HT8 := Lib.hid (keepT.out _ _ _ _ HT7.out hb8); clear hb8 CT))
          go_loopg [18, 19] (n + 2) (fun g' lv iv wx => ∃ (j : Nat) (t : Int), j ≤ n + 2 ∧ g' = n + 2 - j ∧ iv = .int .i64 t ∧ Hid (t = (j : Int) - 1) ∧ lv = .int .i64 ((Ls.cnt n G (j - 1) : Nat) : Int) ∧ Hid (M wx F p n G) ∧ Hid (M wx F4 pt n H) ∧ Hid (Below w.heap.size w wx))
          case atStart => exact ⟨0, -1, Nat.zero_le _, rfl, rfl, by show _ = _; omega, rfl, HM8, HT8, HB8⟩
          case round =>
            clear HM8 HT8 HB8 HM7 HT7 HB7 HM6 HT6 HB6 HM5 HT5 HB5 HM4 HT4 HB4 HM3 HB3 HB
            obtain ⟨j, t, hj, rfl, rfl, ht, rfl, HM9, HT9, HB9⟩ := hrel
            have ht2 := ht.out
            by_cases hjn : j < n + 2
            · have i1 : t ≤ (n : Int) := by omega
              have m1 : IntKind.i64.wrap (t + 1) = t + 1 := IntWalk.i64_in _ (by omega)
              have hstep : Hid (Ls.cnt n G (j + 1 - 1) = Ls.cnt n G (j - 1) + if Ls.lv n G t = true then 1 else 0) := by
                show _ = _
                cases j with
                | zero => rw [show t = -1 by omega, hneg.out]; rfl
                | succ i => rw [show t = (i : Int) by omega]; exact Ls.cnt_succ n G i
              have hcl := Ls.cnt_le n G (j - 1)
              obtain ⟨b, hb⟩ : ∃ b, b = Ls.lv n G t := ⟨_, rfl⟩
              have eb : (b != b) = false := by simp
              obtain ⟨c, hc⟩ : ∃ c, c = Ls.cnt n G (j - 1) := ⟨_, rfl⟩
              have m2 : IntKind.i64.wrap ((c : Int) + 1) = (c : Int) + 1 := IntWalk.i64_in _ (by omega)
              have L1 := Lib.hid (LS.out wr t HM9.out)
              have L2 := Lib.hid (fun W h => LT.out W F4 pt t h)
              have L3 := Lib.hid (fun W h => LS.out W t h)
              rw [← hb] at L1 L2 L3 hstep
              rw [← hc] at hstep ⊢
              clear hb hc hcl ht2
              cases b with
              | true =>
                go_wp2_with (first
                  | (go_at_call 15; refine L1.out.mono ?_; rintro e1 w10 ⟨rfl, hb10⟩; have HB10 := Lib.hid (HB9.out.trans (hb10.mono HB9.out.size)); have HM10 := Lib.hid (keepS.out _ _ HM9.out hb10); have HT10 := Lib.hid (keepT.out _ _ _ _ HT9.out hb10); clear hb10 L1)
                  | (go_at_call 15; refine (L2.out w10 HT10.out).mono ?_; rintro e1 w11 ⟨rfl, hb11⟩; have HB11 := Lib.hid (HB10.out.trans (hb11.mono HB10.out.size)); have HM11 := Lib.hid (keepS.out _ _ HM10.out hb11); have HT11 := Lib.hid (keepT.out _ _ _ _ HT10.out hb11); clear hb11 L2)
                  | (go_at_call 15; refine (L3.out w11 HM11.out).mono ?_; rintro e1 w12 ⟨rfl, hb12⟩; have HB12 := Lib.hid (HB11.out.trans (hb12.mono HB11.out.size)); have HM12 := Lib.hid (keepS.out _ _ HM11.out hb12); have HT12 := Lib.hid (keepT.out _ _ _ _ HT11.out hb12); clear hb12 L3))
                go_roundg (n + 2 - (j + 1))
                case rel => exact ⟨j + 1, t + 1, by omega, rfl, by first | rfl | rw [m1], by show _ = _; have := ht.out; omega, by rw [hstep.out]; simp, HM12, HT12, HB12⟩
                case measure => omega
              | false =>
                go_wp2_with (first
                  | (go_at_call 15; refine L1.out.mono ?_; rintro e1 w10 ⟨rfl, hb10⟩; have HB10 := Lib.hid (HB9.out.trans (hb10.mono HB9.out.size)); have HM10 := Lib.hid (keepS.out _ _ HM9.out hb10); have HT10 := Lib.hid (keepT.out _ _ _ _ HT9.out hb10); clear hb10 L1)
                  | (go_at_call 15; refine (L2.out w10 HT10.out).mono ?_; rintro e1 w11 ⟨rfl, hb11⟩; have HB11 := Lib.hid (HB10.out.trans (hb11.mono HB10.out.size)); have HM11 := Lib.hid (keepS.out _ _ HM10.out hb11); have HT11 := Lib.hid (keepT.out _ _ _ _ HT10.out hb11); clear hb11 L2)
                  | (go_at_call 15; refine (L3.out w11 HM11.out).mono ?_; rintro e1 w12 ⟨rfl, hb12⟩; have HB12 := Lib.hid (HB11.out.trans (hb12.mono HB11.out.size)); have HM12 := Lib.hid (keepS.out _ _ HM11.out hb12); have HT12 := Lib.hid (keepT.out _ _ _ _ HT11.out hb12); clear hb12 L3))
                go_roundg (n + 2 - (j + 1))
                case rel => exact ⟨j + 1, t + 1, by omega, rfl, by first | rfl | rw [m1], by show _ = _; have := ht.out; omega, by rw [hstep.out]; simp, HM12, HT12, HB12⟩
                case measure => omega
            · obtain rfl : j = n + 2 := by omega
              have i1 : ¬ t ≤ (n : Int) := by omega
              have m1 : IntKind.i64.wrap ((n : Int) - 1) = (n : Int) - 1 := IntWalk.i64_in _ (by omega)
              obtain ⟨c, hc⟩ : ∃ c, c = Ls.cnt n G (n + 2 - 1) := ⟨_, rfl⟩
              have hcn : (c : Int) = (n : Int) - (gl : Int) := by have h := hcnt.out; rw [show n + 1 = n + 2 - 1 by omega, ← hc] at h; omega
              have e1 : ((c : Int) == (n : Int) - (gl : Int)) = true := by simp [hcn]
              rw [← hc]
              have HCN := Lib.hid hcn
              clear hc hcn
              go_wp2_with (first
                | (go_at_call 12; refine (KK.out wr F4 pt H 0 HT9.out).mono ?_; rintro e1 w10 ⟨rfl, F10, ht10, hk10, hf10⟩; have HT10 := Lib.hid ht10; have HF10 : Hid (∀ k, F10 k → F4 k ∨ wr.heap.size ≤ k) := hf10; have HS10 := Lib.hid hk10.size; have HM10 : Hid (M w10 F p n G) := (HL.out.keep HM9.out fun k hk => hk10.block k (HL.out.lt HM9.out k hk) (fun q => Nat.lt_irrefl _ (Nat.lt_of_lt_of_le (HD.out k hk) (HF4.out k q)))); have HB10 := Lib.hid (KeptF.below HB9.out hk10 (fun k hk => HL0.out k (HF4.out k hk)) HB9.out.size); have KL := Lib.hid (fun W F p G d h => KK.out W F p G d h); clear ht10 hk10 hf10 KK)
                | (go_at_call 12; refine (KL.out w10 F10 pt _ ((n : Int) - 1) HT10.out).mono ?_; rintro e1 w11 ⟨rfl, F11, _, hk11, _⟩; have HM11 : Hid (M w11 F p n G) := (HL.out.keep HM10.out fun k hk => hk11.block k (HL.out.lt HM10.out k hk) (fun q => (HF10.out k q).elim (fun r => Nat.lt_irrefl _ (Nat.lt_of_lt_of_le (HD.out k hk) (HF4.out k r))) (fun r => Nat.lt_irrefl _ (Nat.lt_of_lt_of_le (HL.out.lt HM9.out k hk) r)))); have HB11 := Lib.hid (KeptF.below HB10.out hk11 (fun k hk => (HF10.out k hk).elim (fun r => HL0.out k (HF4.out k r)) (fun r => Nat.le_trans HB9.out.size r)) HB10.out.size); clear hk11 KL)
                | (go_at_call 14; refine (CU.out w11 HM11.out).mono ?_; rintro e1 w12 ⟨rfl, hb12⟩; have HB12 := Lib.hid (HB11.out.trans (hb12.mono HB11.out.size)); clear hb12))
              go_ret
              exact ⟨rfl, HB12.out⟩
end Go.Proofs.Ytoppgecajibelaa
