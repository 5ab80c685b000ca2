/-
  SpansHold.
-/
import Derived.Test.YtmpjhbbcfnffhaaYk
namespace Go.Proofs.Ytmpjhbbcfnffhaa
open Go.RowKit

namespace Sp
theorem rows_ok (lo hi : Int) : ∀ r ∈ rows lo hi, 1 ≤ r.length ∧ r.length ≤ 4 ∧ ∀ x ∈ r, 0 ≤ x.1 ∧ x.1 ≤ x.2 ∧ x.2 ≤ 255 := by
  intro r hr
  obtain ⟨p, hp, rfl⟩ := List.mem_map.1 hr
  obtain ⟨tl, h3, hrow⟩ := pairs_row hp
  have := hrow.len
  exact ⟨by omega, by omega, hrow.rng⟩
def sumTo (L : List (List (Int × Int))) (k : Nat) : Int := ((L.take k).map cnt).sum
theorem sumTo_step (L : List (List (Int × Int))) (k : Nat) (h : k < L.length) : sumTo L (k + 1) = sumTo L k + cnt L[k] := by
  unfold sumTo
  rw [List.take_succ_eq_append_getElem h]
  simp only [List.map_append, List.sum_append, List.map_cons, List.map_nil, List.sum_cons, List.sum_nil]
  omega
theorem sumTo_all (lo hi : Int) (k : Nat) (h : (rows lo hi).length ≤ k) : sumTo (rows lo hi) k = chars lo hi := by
  unfold sumTo
  rw [List.take_of_length_le h]
  exact rows_sum lo hi
theorem cnt_le (r : List (Int × Int)) (h : r.length ≤ 4) (hx : ∀ x ∈ r, 0 ≤ x.1 ∧ x.1 ≤ x.2 ∧ x.2 ≤ 255) : 0 ≤ cnt r ∧ cnt r ≤ 4294967296 := by
  have h1 := cnt_bd r.length r rfl hx
  have h2 : (256 : Int) ^ r.length ≤ 4294967296 := by
    have hk4 : r.length = 0 ∨ r.length = 1 ∨ r.length = 2 ∨ r.length = 3 ∨ r.length = 4 := by omega
    rcases hk4 with e | e | e | e | e <;> rw [e] <;> decide
  omega
theorem sumTo_bd (L : List (List (Int × Int))) (hL : ∀ r ∈ L, r.length ≤ 4 ∧ ∀ x ∈ r, 0 ≤ x.1 ∧ x.1 ≤ x.2 ∧ x.2 ≤ 255) : ∀ k, k ≤ L.length → 0 ≤ sumTo L k ∧ sumTo L k ≤ k * 4294967296
  | 0, _ => by simp [sumTo]
  | k + 1, h => by
    have ih := sumTo_bd L hL k (by omega)
    have hk := hL L[k] (List.getElem_mem (by omega))
    have hc := cnt_le _ hk.1 hk.2
    rw [sumTo_step L k (by omega)]
    omega
theorem holds_txt (lo hi c : Int) (h : Ut.whole c = true) : (((rows lo hi).filter fun r => fits r (txt c).data.toList).length : Int) = if lo ≤ c ∧ c ≤ hi then 1 else 0 := by
  have e : (txt c).data.toList = Lib.encodeRune c := by
    show (Ut.encS [c]).toArray.toList = _
    rw [encS_one h]
  rw [e, rows_hold lo hi c h]
  split <;> rfl
end Sp

set_option maxRecDepth 100000 in
set_option maxHeartbeats 2000000 in
theorem hold_walk (lo hi c : Int) (w : World) :
    Calls Try.prog 3 #[.int .i64 lo, .int .i64 hi, .int .i64 c] w fun e w' => e = .returned (.bool true) ∧ Below w.heap.size w w' := by
  have H1 := Lib.hid (rows_any lo hi w)
  have HOK := Lib.hid (Sp.rows_ok lo hi)
  have HLN := Sp.rows_few lo hi
  have HBD := Lib.hid (Sp.sumTo_bd (Sp.rows lo hi) fun r hr => (Sp.rows_ok lo hi r hr).2)
  have HST := Lib.hid (Sp.sumTo_step (Sp.rows lo hi))
  have HALL := Lib.hid (Sp.sumTo_all lo hi)
  have HHT := Lib.hid (Sp.holds_txt lo hi c)
  go_enter Try.func3, Try.ntmps3
  go_wp2_with fail
  refine H1.out.mono ?_
  rintro e w1 ⟨v, gs, rfl, hO, hb1⟩
  generalize Sp.rows lo hi = L at *
  obtain ⟨n, hn⟩ : ∃ n, n = L.length := ⟨_, rfl⟩
  obtain ⟨a, cap, rfl, _, _, hform⟩ := hO.form
  have HF := Lib.hid hform
  have HO := Lib.hid hO
  have HN := Lib.hid hn
  have HB1 := Lib.hid hb1
  rw [← hn] at HLN ⊢
  clear hform hO hb1 hn H1
  go_wp2_with fail
  go_loopg [8, 9] n (fun g s i wx => ∃ k : Nat, k ≤ n ∧ g = n - k ∧ i = .int .i64 k ∧ s = .int .i64 (Sp.sumTo L k) ∧ Hid (Below w1.heap.size w1 wx))
  case atStart => exact ⟨0, Nat.zero_le _, rfl, rfl, rfl, Below.refl _ _⟩
  case round =>
    obtain ⟨k, hk, rfl, rfl, rfl, hbel⟩ := hrel
    have hsb := HBD.out k (by rw [← HN.out]; exact hk)
    obtain ⟨s1, s2⟩ := hsb
    by_cases hkn : k < n
    · have i1 : (k : Int) < (n : Int) := by omega
      have hkL : k < L.length := by rw [← HN.out]; exact hkn
      have hkg : k < gs.length := by rw [HO.out.len]; exact hkL
      obtain ⟨g, rfl, _, hg, hcell⟩ := HF.out (by omega)
      have HC1 : Hid (w1.cell? ⟨g, k, none⟩ = some (.slice (some ⟨gs[k], 0, none⟩) L[k].length L[k].length)) := hcell k hkg hkL
      have HR := Lib.hid (HO.out.row k hkg hkL).2
      obtain ⟨l1, l2, l3⟩ := HOK.out L[k] (List.getElem_mem hkL)
      have HL3 := Lib.hid l3
      have HS := Lib.hid (HST.out k hkL)
      have hcl := Sp.cnt_le L[k] l2 l3
      obtain ⟨t1, t2⟩ := hcl
      obtain ⟨m, hm⟩ : ∃ m, L[k].length = m := ⟨_, rfl⟩
      have HM := Lib.hid hm
      rw [hm] at HC1 l1 l2
      have c1 : wr.cell? ⟨g, k, none⟩ = some (.slice (some ⟨gs[k], 0, none⟩) m m) := (hbel.out.cell (p := ⟨g, k, none⟩) hg).trans HC1.out
      clear hcell hm l3
      go_wp2_with fail
      clear c1
      obtain ⟨wo, rfl⟩ : ∃ wo : World, wo = wr := ⟨_, rfl⟩
      go_loopg [10] m (fun g' i wx => ∃ j : Nat, j ≤ m ∧ g' = m - j ∧ i = .int .i64 j ∧ Hid (Below w1.heap.size w1 wx))
      case atStart => exact ⟨0, Nat.zero_le _, rfl, rfl, hbel⟩
      case round =>
        obtain ⟨j, hj, rfl, rfl, hbel2⟩ := hrel
        have c1 : wr.cell? ⟨g, k, none⟩ = some (.slice (some ⟨gs[k], 0, none⟩) m m) := (hbel2.out.cell (p := ⟨g, k, none⟩) hg).trans HC1.out
        by_cases hjm : j < m
        · have i2 : (j : Int) < (m : Int) := by omega
          have hjr : j < L[k].length := by rw [HM.out]; exact hjm
          obtain ⟨c2, c3⟩ := (HR.out.below hbel2.out HR.out.lt).cells j hjr
          obtain ⟨x1, x2, x3⟩ := HL3.out L[k][j] (List.getElem_mem hjr)
          have e1 : decide ((L[k][j]).1 < 0) = false := decide_eq_false (by omega)
          have e2 : decide (255 < (L[k][j]).2) = false := decide_eq_false (by omega)
          have e3 : decide ((L[k][j]).2 < (L[k][j]).1) = false := decide_eq_false (by omega)
          go_wp2_with fail
          go_quiet (fail)
          go_wp2_with fail
          go_roundg (m - (j + 1))
          case rel => exact ⟨j + 1, by omega, rfl, by go_num, belowN hbel2.out _⟩
          case measure => omega
        · have hC := Lib.hid (count_any wr gs[k] L[k] m HM.out (HR.out.below hbel2.out HR.out.lt) l2 HL3.out)
          go_wp2_with fail
          refine hC.out.mono ?_
          rintro e w2 ⟨rfl, hb2⟩
          have HB2 : Hid (Below w1.heap.size w1 w2) := hbel2.out.trans (hb2.mono hbel2.out.size)
          clear hb2 c1
          go_wp2_with fail
          go_roundg (n - (k + 1))
          case rel => exact ⟨k + 1, by omega, rfl, by go_num, by rw [HS.out], HB2⟩
          case measure => omega
    · have hkk : k = n := by omega
      have he : Sp.sumTo L k = Sp.chars lo hi := HALL.out k (by rw [← HN.out]; omega)
      have HE := Lib.hid he
      rw [he] at s1 s2 ⊢
      clear he
      have HA := Lib.hid (awake_any wr)
      go_wp2_with fail
      refine HA.out.mono ?_
      rintro e w2 ⟨rfl, hb2⟩
      have HB2 : Hid (Below w1.heap.size w1 w2) := hbel.out.trans (hb2.mono hbel.out.size)
      clear hb2
      go_wp2_with fail
      refine (chars_any lo hi w2).mono ?_
      rintro e w3 ⟨rfl, hb3⟩
      have HB3 : Hid (Below w1.heap.size w1 w3) := HB2.out.trans (hb3.mono HB2.out.size)
      clear hb3
      go_wp2_with fail
      obtain ⟨b, hb⟩ : ∃ b, Ut.whole c = b := ⟨_, rfl⟩
      have HW : Hid (∀ w, Calls Try.prog 10 #[.int .i64 c] w fun e w' => e = .returned (.bool b) ∧ w = w') := by rw [← hb]; exact fun w => wholeR_any c w
      refine (HW.out w3).mono ?_
      rintro e w4 ⟨rfl, rfl⟩
      cases b
      · clear hb
        go_wp2_with fail
        refine (HW.out w3).mono ?_
        rintro e w4 ⟨rfl, rfl⟩
        go_wp2_with fail
        go_ret
        exact ⟨rfl, HB1.out.trans (HB3.out.mono HB1.out.size)⟩
      · have hh := HHT.out hb
        have HL : Hid (∀ w', Below w1.heap.size w1 w' → Calls Try.prog 11 #[.slice a n cap, .string (Sp.txt c)] w' fun e w2 => e = .returned (.int .i64 (if lo ≤ c ∧ c ≤ hi then 1 else 0)) ∧ Below w'.heap.size w' w2) := fun w' hb' => by
          have := holds_any w' _ _ gs L (HO.out.below hb') (fun r hr => (HOK.out r hr).2.1) (by rw [← HN.out]; exact HLN) (Sp.txt c)
          rw [hh, ← HN.out] at this
          exact this
        clear hh hb
        by_cases q : lo ≤ c ∧ c ≤ hi
        · simp only [if_pos q] at HL
          obtain ⟨q1, q2⟩ := q
          go_wp2_with fail
          refine (HW.out w3).mono ?_
          rintro e w4 ⟨rfl, rfl⟩
          go_wp2_with fail
          refine (bytes_any c w3).mono ?_
          rintro e w5 ⟨rfl, hb5⟩
          have HB5 : Hid (Below w1.heap.size w1 w5) := HB3.out.trans (hb5.mono HB3.out.size)
          clear hb5
          go_wp2_with fail
          refine (HL.out w5 HB5.out).mono ?_
          rintro e w6 ⟨rfl, hb6⟩
          have HB6 : Hid (Below w1.heap.size w1 w6) := HB5.out.trans (hb6.mono HB5.out.size)
          clear hb6
          go_wp2_with fail
          go_ret
          exact ⟨rfl, HB1.out.trans (HB6.out.mono HB1.out.size)⟩
        · simp only [if_neg q] at HL
          by_cases q1 : lo ≤ c
          · have q2 : ¬ c ≤ hi := fun h => q ⟨q1, h⟩
            clear q
            go_wp2_with fail
            refine (HW.out w3).mono ?_
            rintro e w4 ⟨rfl, rfl⟩
            go_wp2_with fail
            refine (bytes_any c w3).mono ?_
            rintro e w5 ⟨rfl, hb5⟩
            have HB5 : Hid (Below w1.heap.size w1 w5) := HB3.out.trans (hb5.mono HB3.out.size)
            clear hb5
            go_wp2_with fail
            refine (HL.out w5 HB5.out).mono ?_
            rintro e w6 ⟨rfl, hb6⟩
            have HB6 : Hid (Below w1.heap.size w1 w6) := HB5.out.trans (hb6.mono HB5.out.size)
            clear hb6
            go_wp2_with fail
            go_ret
            exact ⟨rfl, HB1.out.trans (HB6.out.mono HB1.out.size)⟩
          · clear q
            go_wp2_with fail
            refine (HW.out w3).mono ?_
            rintro e w4 ⟨rfl, rfl⟩
            go_wp2_with fail
            refine (bytes_any c w3).mono ?_
            rintro e w5 ⟨rfl, hb5⟩
            have HB5 : Hid (Below w1.heap.size w1 w5) := HB3.out.trans (hb5.mono HB3.out.size)
            clear hb5
            go_wp2_with fail
            refine (HL.out w5 HB5.out).mono ?_
            rintro e w6 ⟨rfl, hb6⟩
            have HB6 : Hid (Below w1.heap.size w1 w6) := HB5.out.trans (hb6.mono HB5.out.size)
            clear hb6
            go_wp2_with fail
            go_ret
            exact ⟨rfl, HB1.out.trans (HB6.out.mono HB1.out.size)⟩
end Go.Proofs.Ytmpjhbbcfnffhaa
