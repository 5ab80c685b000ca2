/-
  Apart: the walk.
-/
import Derived.Test.YtdohenbicepicaaAs
import Derived.StillTailTactics
namespace Go.Proofs.Ytdohenbicepicaa
open Go.RowKit Go.Maps

theorem Try.infoSS : (Try.prog.info? 47).map (fun i => (i.zero, i.size, i.bytes)) = some (some (.slice none 0 0), 1, 24) := by kernel_rfl

set_option maxRecDepth 100000 in
set_option maxHeartbeats 8000000 in
theorem apart_any (w : World) (B g N cap : Nat) (vs : Nat → Value) (ls : Nat → List ByteArray) (h : Ap.In w B g N vs ls) (hN : N ≤ 26) :
    Calls Try.prog 40 #[.slice (some ⟨g, 0, none⟩) N cap] w fun e w' => e = .returned (.bool true) ∧ Below B w w' := by
  obtain ⟨ii, hi1, hz0, hz1, hz2⟩ := info_parts Try.infoS
  obtain ⟨jj, hj1, hy0, hy1, hy2⟩ := info_parts Try.infoSS
  have H0 := Lib.hid (Ap.P1.start h)
  have HL := Lib.hid h.len
  clear h
  generalize hns : (fun j => (ls j).length) = ns at H0
  have HL : Hid (∀ j, j < N → ns j ≤ 1073741824) := fun j hj => by rw [← hns]; exact HL.out j hj
  clear hns
  go_enter Try.func40, Try.ntmps40
  go_wp2_with fail
  generalize hmk : (⟨#[97, 98, 99, 100, 101, 102, 103, 104, 105, 106, 107, 108, 109, 110, 111, 112, 113, 114, 115, 116, 117, 118, 119, 120, 121, 122]⟩ : ByteArray) = mk
  have hms : mk.size = 26 := by rw [← hmk]; rfl
  have HMK : Hid (Ap.marks = mk) := hmk
  clear hmk
  go_loopg [4] N (fun gg iv wx => ∃ i : Nat, i ≤ N ∧ gg = N - i ∧ iv = .int .i64 (i : Int) ∧ Ap.P1 w wx B g N vs ns i 0)
  case atStart => exact ⟨0, by omega, by omega, rfl, H0.out⟩
  case round =>
    clear H0
    obtain ⟨i, hi, rfl, rfl, hp⟩ := hrel
    have HP := Lib.hid hp
    clear hp
    by_cases hiN : i < N
    · obtain ⟨a, c, hv, k1⟩ := HP.out.form hiN
      have i1 : (i : Int) < (N : Int) := by omega
      have t1 : (i : Int).tmod 26 = (i : Int) := by rw [Int.tmod_eq_emod_of_nonneg (by omega)]; omega
      have r1 : IntKind.i64.wrap (i : Int) = (i : Int) := IntWalk.i64_in _ (by omega)
      have r2 : IntKind.i64.wrap ((i : Int) + 1) = (i : Int) + 1 := IntWalk.i64_in _ (by omega)
      have n1 : ((i : Int) + 1).toNat = i + 1 := by omega
      have n2 : (i : Int) + 1 ≤ 26 := by omega
      have n3 : (0 : Int) ≤ (i : Int) := by omega
      have n4 : (0 : Int) ≤ (i : Int) + 1 := by omega
      have n5 : (i : Int) ≤ (i : Int) + 1 := by omega
      have x1 : (mk.extract i (i + 1)).size = 1 := by rw [ByteArray.size_extract]; omega
      have HW : Hid ((⟨#[119, 97, 115]⟩ : ByteArray) ++ mk.extract i (i + 1) = Ap.was i) := by show _ = _; rw [← HMK.out]; rfl
      have HV := Lib.hid hv
      have hnl := HL.out i hiN
      clear hv
      go_wp2_with fail
      generalize hni : ns i = n at *
      go_loopg [5] n (fun gg kv wx => ∃ k : Nat, k ≤ n ∧ gg = n - k ∧ kv = .int .i64 (k : Int) ∧ Ap.P1 w wx B g N vs ns i k)
      case atStart => exact ⟨0, by omega, by omega, rfl, HP.out⟩
      case round =>
        clear HP k1
        obtain ⟨k, hk, rfl, rfl, hp⟩ := hrel
        have HP := Lib.hid hp
        clear hp
        obtain ⟨a2, c2, hv2, k2⟩ := HP.out.form hiN
        rw [hni, HV.out] at hv2
        rw [hni] at k2
        simp only [Value.slice.injEq, true_and] at hv2
        obtain ⟨rfl, rfl⟩ := hv2
        by_cases hkn : k < n
        · obtain ⟨b, c3, s, hv3, hb, k3, f3d, k4d, hst⟩ := HP.out.drew.look hiN (by omega)
          rw [hni, HV.out] at hv3
          simp only [Value.slice.injEq, true_and] at hv3
          obtain ⟨rfl, rfl⟩ := hv3
          have HS := Lib.hid hst
          have j1 : (k : Int) < (n : Int) := by omega
          clear hst k3
          have f3 : wr.frozen? ⟨b, k, none⟩ = false := f3d
          have k4 : wr.cell? ⟨b, k, none⟩ = some (.string s) := k4d
          go_wp2_with fail
          refine wp_region_still_tail 14 (by kernel_rfl) (by kernel_rfl) ?_
          simp only [List.take_succ_cons, List.take_zero, List.drop_succ_cons, List.drop_zero]
          change wpStill _ _ wr.drew (fun a' => wpList _ _ _ _ a' wr.drew) _ _
          have k2d : wr.drew.cell? ⟨g, i, none⟩ = some (.slice (some ⟨b, 0, none⟩) n c) := k2
          clear k2 f3 k4 hb
          generalize wr.drew = w6 at *
          repeat still_step
          refine wpStill_nil ?_
          rw [HW.out]
          go_wp2_with fail
          go_roundg (n - (k + 1))
          case rel => exact ⟨k + 1, by omega, rfl, by go_num, HS.out⟩
          case measure => omega
        · obtain rfl : k = n := by omega
          go_wp2_with fail
          go_roundg (N - (i + 1))
          case rel => exact ⟨i + 1, by omega, rfl, by go_num, Ap.P1.next (by rw [hni]; exact HP.out)⟩
          case measure => omega
    · obtain rfl : i = N := by omega
      have hdone := HP.out.done
      have hst := Ap.P2.start hdone.1 hdone.2
      obtain ⟨G, hG⟩ : ∃ G, G = wr.heap.size := ⟨_, rfl⟩
      rw [← hG] at hst
      have HS := Lib.hid hst.1
      have HP2 := Lib.hid hst.2
      clear hst hdone HP hG hi hiN
      go_wp2_with fail
      go_loopg [6, 7] i (fun gg lv iv wx => ∃ (k : Nat) (X : Nat → Value), k ≤ i ∧ gg = i - k ∧ iv = .int .i64 (k : Int) ∧ Ap.P2 w wx G B g i vs ns k lv X)
      case atStart => exact ⟨0, vs, by omega, by omega, rfl, HP2.out⟩
      case round =>
        clear HP2
        obtain ⟨j, X, hj, rfl, rfl, hp⟩ := hrel
        have HP := Lib.hid hp
        clear hp
        by_cases hjN : j < i
        · obtain ⟨a, c, hv, k1⟩ := HP.out.form hjN
          have i1 : (j : Int) < (i : Int) := by omega
          have t1 : (j : Int).tmod 26 = (j : Int) := by rw [Int.tmod_eq_emod_of_nonneg (by omega)]; omega
          have r1 : IntKind.i64.wrap (j : Int) = (j : Int) := IntWalk.i64_in _ (by omega)
          have r2 : IntKind.i64.wrap ((j : Int) + 1) = (j : Int) + 1 := IntWalk.i64_in _ (by omega)
          have n1 : ((j : Int) + 1).toNat = j + 1 := by omega
          have n2 : (j : Int) + 1 ≤ 26 := by omega
          have n3 : (0 : Int) ≤ (j : Int) := by omega
          have n4 : (0 : Int) ≤ (j : Int) + 1 := by omega
          have n5 : (j : Int) ≤ (j : Int) + 1 := by omega
          have x1 : (mk.extract j (j + 1)).size = 1 := by rw [ByteArray.size_extract]; omega
          have HW : Hid ((⟨#[110, 101, 119]⟩ : ByteArray) ++ mk.extract j (j + 1) = Ap.new j) := by show _ = _; rw [← HMK.out]; rfl
          have hv0 := HP.out.own j (Nat.le_refl _) hjN
          have HV0 := Lib.hid hv0
          have HQ0 := Lib.hid (Ap.Q2.start (Ap.new j) hv0)
          have hnl := HL.out j hjN
          have hlW : (Ap.W ns j).length ≤ 4611686018427387904 := by rw [Ap.W_len]; omega
          have hlW2 : (Ap.W ns j).length ≤ 1073741824 := by rw [Ap.W_len]; omega
          rw [hv] at HV0 HQ0
          have HVV := Lib.hid hv
          clear hv hv0
          generalize wr = w5 at *
          obtain ⟨WL, hWL⟩ : ∃ WL, WL = Ap.W ns j := ⟨_, rfl⟩
          rw [← hWL] at HV0 HQ0 hlW hlW2
          have HWL : Hid (Ap.W ns j = WL) := hWL.symm
          clear hWL
          go_wp2_with fail
          go_loopg [8, 9] 20 (fun gg xv kv wx => ∃ k : Nat, k ≤ 20 ∧ gg = 20 - k ∧ kv = .int .i64 (k : Int) ∧ Ap.Q2 w5 wx B (.slice a (ns j) c) WL (Ap.new j) k xv)
          case atStart => exact ⟨0, by omega, by omega, rfl, HQ0.out⟩
          case round =>
            clear HQ0 k1
            obtain ⟨k, hk, rfl, rfl, hq⟩ := hrel
            by_cases hkn : k < 20
            · have j1 : (k : Int) < 20 := by omega
              have hown' : wr.ownsRow B 9 1 u8 (WL ++ List.replicate k (Ap.new j)).length (strsV (WL ++ List.replicate k (Ap.new j))) := hq.own
              have hBw : B ≤ wr.heap.size := by have := HS.out.low; have := HP.out.big; have := hq.kept.size; omega
              have hln : (WL ++ List.replicate k (Ap.new j)).length ≤ 1073741844 := by simp; omega
              have HQ := Lib.hid hq
              clear hq
              go_wp2_with (at_builtin; refine wpList_append_two _ rfl _ _ 47 rfl B 9 ii _ 1 16 Try.underlying47 hi1 hz0 hz1 hz2 rfl (by decide) _ _ _ rfl (hown'.alloc _) ⟨wr.heap.size, 0, none⟩ 1 1 [.string (Ap.new j)] rfl rfl ?c1 ?c2 ?c3 ?c4 ?c5 ?_)
              case c1 =>
                intro q u hq
                match q, hq with
                | 0, hq => simp at hq; subst hq; simp [Addr.add]; exact HW.out
              case c2 => intro u hu; simp at hu; subst hu; rfl
              case c3 => unfold maxLen; omega
              case c4 => omega
              case c5 => simp; omega
              · intro v' w2 hown1 htwo
                have ht2 : Ap.Two (wr.alloc (.cells #[.string ((⟨#[110, 101, 119]⟩ : ByteArray) ++ mk.extract j (j + 1))] 9)) w2 u8 v' := htwo.imp id (fun h => ⟨fun b hb => by have := h.1 b hb; simp; omega, h.2⟩)
                have HQ1 := Lib.hid (HQ.out.step HV0.out hlW (by simp) hown1 ht2.drop)
                clear ht2
                clear hown1 htwo hown' HQ
                go_wp2
                go_roundg (20 - (k + 1))
                case rel => exact ⟨k + 1, by omega, rfl, by go_num, HQ1.out⟩
                case measure => omega
            · obtain rfl : k = 20 := by omega
              have hlst := HP.out.lstAt HS.out hjN (by rw [HVV.out]; exact hq.kept)
              obtain ⟨ax, cx, hx⟩ := (Ap.ownS_form hq.own).1
              have HQ := Lib.hid hq
              clear hq
              subst hx
              generalize (WL ++ List.replicate 20 (Ap.new j)).length = nx at *
              have hGw : G ≤ wr.heap.size := by have := HP.out.big; have := HQ.out.kept.size; omega
              go_wp2_with (at_builtin; refine wpList_append_two _ rfl _ _ 67 rfl G 47 jj _ 1 24 Try.underlying67 hj1 hy0 hy1 hy2 rfl (by decide) _ _ _ rfl (hlst.alloc _) ⟨wr.heap.size, 0, none⟩ 1 1 [.slice ax nx cx] rfl rfl ?c1 ?c2 ?c3 ?c4 ?c5 ?_)
              case c1 =>
                intro q u hq
                match q, hq with
                | 0, hq => simp at hq; subst hq; simp [Addr.add]
              case c2 => intro u hu; simp at hu; subst hu; rfl
              case c3 => unfold maxLen; omega
              case c4 => omega
              case c5 => simp; omega
              · intro v' w2 hown1 htwo
                have ht2 : Ap.Two (wr.alloc (.cells #[.slice ax nx cx] 47)) w2 u6 v' := htwo.imp id (fun h => ⟨fun b hb => by have := h.1 b hb; simp; omega, h.2⟩)
                have HP3 := Lib.hid (HP.out.next HS.out hjN (by rw [HVV.out, HWL.out]; exact HQ.out) hown1 ht2.drop)
                clear hown1 htwo ht2 hlst HP HQ
                go_wp2
                go_roundg (i - (j + 1))
                case rel => exact ⟨j + 1, _, by omega, rfl, by go_num, HP3.out⟩
                case measure => omega
        · obtain rfl : j = i := by omega
          clear hjN HS
          go_wp2_with fail
          go_loopg [10] j (fun gg iv wx => ∃ m : Nat, wr = wx ∧ m ≤ j ∧ gg = j - m ∧ iv = .int .i64 (m : Int))
          case atStart => exact ⟨0, rfl, by omega, by omega, rfl⟩
          case round =>
            obtain ⟨m, rfl, hm, rfl, rfl⟩ := hrel
            by_cases hmj : m < j
            · obtain ⟨gl, cl, bx, cx, a, c, rfl, k1, k2, hc1, hc2⟩ := HP.out.seen hmj
              have HC1 := Lib.hid hc1
              have HC2 := Lib.hid hc2
              clear hc1 hc2
              have i1 : (m : Int) < (j : Int) := by omega
              have t1 : (m : Int).tmod 26 = (m : Int) := by rw [Int.tmod_eq_emod_of_nonneg (by omega)]; omega
              have r1 : IntKind.i64.wrap (m : Int) = (m : Int) := IntWalk.i64_in _ (by omega)
              have r2 : IntKind.i64.wrap ((m : Int) + 1) = (m : Int) + 1 := IntWalk.i64_in _ (by omega)
              have n1 : ((m : Int) + 1).toNat = m + 1 := by omega
              have n2 : (m : Int) + 1 ≤ 26 := by omega
              have n3 : (0 : Int) ≤ (m : Int) := by omega
              have n4 : (0 : Int) ≤ (m : Int) + 1 := by omega
              have n5 : (m : Int) ≤ (m : Int) + 1 := by omega
              have x1 : (mk.extract m (m + 1)).size = 1 := by rw [ByteArray.size_extract]; omega
              have HW : Hid (Ap.was m = (⟨#[119, 97, 115]⟩ : ByteArray) ++ mk.extract m (m + 1)) := by show _ = _; rw [← HMK.out]; rfl
              have HN : Hid (Ap.new m = (⟨#[110, 101, 119]⟩ : ByteArray) ++ mk.extract m (m + 1)) := by show _ = _; rw [← HMK.out]; rfl
              have hnl := HL.out m hmj
              have q1 : (((⟨#[119, 97, 115]⟩ : ByteArray) ++ mk.extract m (m + 1)).toList != ((⟨#[119, 97, 115]⟩ : ByteArray) ++ mk.extract m (m + 1)).toList) = false := by simp
              have q2 : (((⟨#[110, 101, 119]⟩ : ByteArray) ++ mk.extract m (m + 1)).toList != ((⟨#[110, 101, 119]⟩ : ByteArray) ++ mk.extract m (m + 1)).toList) = false := by simp
              generalize hni : ns m = n at *
              go_wp2_with fail
              go_loopg [11] (n + 20) (fun gg kv wx => ∃ k : Nat, wr = wx ∧ k ≤ n + 20 ∧ gg = n + 20 - k ∧ kv = .int .i64 (k : Int))
              case atStart => exact ⟨0, rfl, by omega, by omega, rfl⟩
              case round =>
                obtain ⟨k, rfl, hk, rfl, rfl⟩ := hrel
                by_cases hkn : k < n
                · have j1 : (k : Int) < (n : Int) := by omega
                  have j2 : (k : Int) < ((n + 20 : Nat) : Int) := by omega
                  obtain ⟨k3, b, rfl, k4⟩ := HC1.out k hkn
                  rw [HW.out] at k3 k4
                  go_wp2_with fail
                  go_roundg (n + 20 - (k + 1))
                  case rel => exact ⟨k + 1, rfl, by omega, rfl, by go_num⟩
                  case measure => omega
                · by_cases hkn2 : k < n + 20
                  · have j1 : ¬ (k : Int) < (n : Int) := by omega
                    have j2 : (k : Int) < ((n + 20 : Nat) : Int) := by omega
                    have k3 := HC2.out k (by omega) hkn2
                    rw [HN.out] at k3
                    go_wp2_with fail
                    go_roundg (n + 20 - (k + 1))
                    case rel => exact ⟨k + 1, rfl, by omega, rfl, by go_num⟩
                    case measure => omega
                  · obtain rfl : k = n + 20 := by omega
                    go_wp2_with fail
                    go_roundg (j - (m + 1))
                    case rel => exact ⟨m + 1, rfl, by omega, rfl, by go_num⟩
                    case measure => omega
            · obtain rfl : m = j := by omega
              go_wp2_with fail
              go_ret
              exact ⟨rfl, HP.out.bel⟩
end Go.Proofs.Ytdohenbicepicaa
