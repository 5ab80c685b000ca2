/-
  The terms of two texts with a blank between are those of the one and then those of the other: the walk of the statement.
-/
import Derived.Test.YtedloedfbegbkaaDoorTb
namespace Go.Proofs.YtedloedfbegbkaaDoor
open Go.RowKit

theorem Ut.tokS_length (s : List UInt8) : (Ut.tokS s).length ≤ s.length := by
  unfold Ut.tokS
  split
  · unfold Ut.terms
    rw [List.length_map]
    exact Nat.le_trans (Ut.rows_length _ _) (Ut.dec_length _ _)
  · simp
theorem blank_list (a b : ByteArray) : (a ++ ⟨#[32]⟩ ++ b).data.toList = a.data.toList ++ 32 :: b.data.toList := by
  rw [ByteArray.data_append, ByteArray.data_append]
  simp

set_option maxRecDepth 100000 in
set_option maxHeartbeats 4000000 in
theorem joins_walk (w : World) (a b : ByteArray) (hT : Tabs w) : Calls Tryd.prog 4 #[.string a, .string b] w fun e w' => e = .returned (.bool true) ∧ Below w.heap.size w w' := by
  have HTa := Lib.hid (tokens_any w a hT)
  have HTb : Hid (∀ W, Below w.heap.size w W → Calls Tryd.prog 6 #[.string b] W (TokPost W b.data.toList)) := fun W hb => tokens_any W b (hT.below hb)
  have HTz : Hid (∀ W, Below w.heap.size w W → Calls Tryd.prog 6 #[.string (a ++ ⟨#[32]⟩ ++ b)] W (TokPost W (a.data.toList ++ 32 :: b.data.toList))) := fun W hb => by
    have h := tokens_any W (a ++ ⟨#[32]⟩ ++ b) (hT.below hb)
    rw [blank_list] at h
    exact h
  unfold TokPost at HTa HTb HTz
  have HAw : Hid (∀ W, Below w.heap.size w W → Calls Tryd.prog 12 #[] W fun e' w' => e' = .returned (.bool true) ∧ Below W.heap.size W w') := fun W hb => awakeT_any W (hT.below hb)
  have hja := @Ut.joined a.data.toList b.data.toList
  have hsa : Ut.tokE a.data.toList = 0 → a.size ≤ 4096 := fun h => by have := (Ut.tokE_ok h).1; simpa using this
  have hsb : Ut.tokE b.data.toList = 0 → b.size ≤ 4096 := fun h => by have := (Ut.tokE_ok h).1; simpa using this
  rw [show a.data.toList.length = a.size from by simp, show b.data.toList.length = b.size from by simp] at hja
  have hxa := Ut.tokS_length a.data.toList
  have hxb := Ut.tokS_length b.data.toList
  rw [show a.data.toList.length = a.size from by simp] at hxa
  rw [show b.data.toList.length = b.size from by simp] at hxb
  generalize Ut.tokE (a.data.toList ++ 32 :: b.data.toList) = Ez at *
  generalize Ut.tokS (a.data.toList ++ 32 :: b.data.toList) = Z at *
  generalize Ut.tokE a.data.toList = Ea at *
  generalize Ut.tokE b.data.toList = Eb at *
  generalize Ut.tokS a.data.toList = X at *
  generalize Ut.tokS b.data.toList = Y at *
  clear hT
  have hcase : (Ea = 0 ∧ Eb = 0 ∧ a.size ≤ 4096 ∧ b.size ≤ 4096 ∧ a.size + b.size < 4096) ∨ (Ea ≠ 0) ∨ (Ea = 0 ∧ Eb ≠ 0) ∨ (Ea = 0 ∧ Eb = 0 ∧ a.size ≤ 4096 ∧ b.size ≤ 4096 ∧ ¬ a.size + b.size < 4096) := by
    by_cases h1 : Ea = 0
    · have := hsa h1
      by_cases h2 : Eb = 0
      · have := hsb h2
        by_cases h3 : a.size + b.size < 4096
        · exact .inl ⟨h1, h2, by omega, by omega, h3⟩
        · exact .inr (.inr (.inr ⟨h1, h2, by omega, by omega, h3⟩))
      · exact .inr (.inr (.inl ⟨h1, h2⟩))
    · exact .inr (.inl h1)
  clear hsa hsb
  rcases hcase with ⟨rfl, rfl, za, zb, zs⟩ | hrest
  · obtain ⟨rfl, rfl⟩ := hja rfl rfl zs
    clear hja
    have q1 : ¬ 9223372036854775807 < a.size + (⟨#[32]⟩ : ByteArray).size := by
      have : (⟨#[32]⟩ : ByteArray).size = 1 := rfl
      omega
    have q2 : ¬ 9223372036854775807 < (a ++ ⟨#[32]⟩).size + b.size := by
      have : (⟨#[32]⟩ : ByteArray).size = 1 := rfl
      rw [ByteArray.size_append]
      omega
    have k1 : (a.size : Int) + (b.size : Int) < 4096 := by omega
    go_enter Tryd.func4, Tryd.ntmps4
    go_wp2_with fail
    refine HTa.out.mono ?_
    rintro e w1 ⟨va, rfl, hoa, hb1⟩
    have HB1 := Lib.hid hb1
    obtain ⟨ga, aa, ca, rfl, hna, hca, haa, _, hcella⟩ := hoa.each
    have HAA := Lib.hid haa
    have HCA := Lib.hid hcella
    obtain ⟨n, hn⟩ : ∃ n, n = X.length := ⟨_, rfl⟩
    have HN := Lib.hid hn
    have hn9 : n ≤ 4096 := by omega
    rw [← hn] at HAA ⊢
    clear hb1 hoa haa hcella hna hca hn
    go_wp2_with fail
    refine (HTb.out w1 HB1.out).mono ?_
    rintro e w2 ⟨vb, rfl, hob, hb2⟩
    have H12 := Lib.hid hb2
    obtain ⟨gb, ab, cb, rfl, hnb, hcb, hab, _, hcellb⟩ := hob.each
    have HAB := Lib.hid hab
    have HCB := Lib.hid hcellb
    obtain ⟨m, hm⟩ : ∃ m, m = Y.length := ⟨_, rfl⟩
    have HM := Lib.hid hm
    have hm9 : m ≤ 4096 := by omega
    rw [← hm] at HAB ⊢
    clear hb2 hob hab hcellb hnb hcb hm
    go_wp2_with fail
    have HW2 : Hid (Below w.heap.size w w2) := HB1.out.trans (H12.out.mono HB1.out.size)
    refine (HAw.out w2 HW2.out).mono ?_
    rintro e w3 ⟨rfl, hb3⟩
    have HB3 := Lib.hid hb3
    have HW3 : Hid (Below w.heap.size w w3) := HW2.out.trans (hb3.mono HW2.out.size)
    clear hb3
    go_wp2_with fail
    refine (HTz.out w3 HW3.out).mono ?_
    rintro e w4 ⟨vz, rfl, hoz, hb4⟩
    have HB4 : Hid (Below w3.heap.size w3 w4) := hb4
    have HW4 : Hid (Below w.heap.size w w4) := HW3.out.trans (hb4.mono HW3.out.size)
    obtain ⟨gz, az, cz, rfl, _, _, haz, _, hcellz⟩ := hoz.each
    have HAZ := Lib.hid haz
    have HCZ := Lib.hid hcellz
    have hlen : (X ++ Y).length = n + m := by rw [List.length_append, HN.out, HM.out]
    have HLN := Lib.hid hlen
    rw [hlen] at HAZ ⊢
    have H14 : Hid (Below w1.heap.size w1 w4) := H12.out.trans ((HB3.out.trans (HB4.out.mono HB3.out.size)).mono H12.out.size)
    have H24 : Hid (Below w2.heap.size w2 w4) := HB3.out.trans (HB4.out.mono HB3.out.size)
    clear hb4 hoz haz hcellz hlen hxa hxb
    go_wp2_with fail
    go_loopg [11] (n + m) (fun gg iv wx => ∃ i : Nat, i ≤ n + m ∧ gg = n + m - i ∧ iv = .int .i64 (i : Int) ∧ wx = w4)
    case atStart => exact ⟨0, Nat.zero_le _, rfl, rfl, rfl⟩
    case round =>
      obtain ⟨i, hi, rfl, rfl, rfl⟩ := hrel
      by_cases hin : i < n + m
      · have i2 : (i : Int) < ((n + m : Nat) : Int) := by omega
        have iz : i < (X ++ Y).length := by rw [HLN.out]; exact hin
        obtain rfl := HAZ.out (by omega)
        obtain ⟨z1, z2⟩ := HCZ.out wr (Below.refl _ _) i iz
        by_cases hix : i < n
        · have i3 : (i : Int) < (n : Int) := by omega
          have ix : i < X.length := by rw [← HN.out]; exact hix
          obtain rfl := HAA.out (by omega)
          obtain ⟨c1, c2⟩ := HCA.out wr H14.out i ix
          rw [List.getElem_append_left ix] at z1
          generalize (⟨X[i].toArray⟩ : ByteArray) = T at *
          have hTT : (T.toList == T.toList) = true := by simp
          go_wp2_with fail
          go_roundg (n + m - (i + 1))
          case rel => exact ⟨i + 1, by omega, rfl, by go_num, rfl⟩
          case measure => omega
        · have i3 : ¬ (i : Int) < (n : Int) := by omega
          have jx : i - n < Y.length := by rw [← HM.out]; omega
          obtain rfl := HAB.out (by omega)
          have hcy := HCB.out wr H24.out (i - n) jx
          have c1 := hcy.1
          have hxl : X.length ≤ i := by rw [← HN.out]; omega
          have hzy : (X ++ Y)[i] = Y[i - n] := by
            rw [List.getElem_append_right hxl]
            congr 1
            rw [HN.out]
          rw [hzy] at z1
          generalize (⟨Y[i - n].toArray⟩ : ByteArray) = T at *
          have hTT : (T.toList == T.toList) = true := by simp
          have i4 : (0 : Int) ≤ (i : Int) - (n : Int) := by omega
          have i5 : (i : Int) - (n : Int) < (m : Int) := by omega
          clear hcy hzy hxl
          go_wp2_with fail
          go_roundg (n + m - (i + 1))
          case rel => exact ⟨i + 1, by omega, rfl, by go_num, rfl⟩
          case measure => omega
      · have i2 : ¬ (i : Int) < ((n + m : Nat) : Int) := by omega
        go_wp2_with fail
        go_ret
        exact ⟨rfl, HW4.out⟩
  · clear hja HTz
    rcases hrest with h1 | ⟨rfl, h1⟩ | ⟨rfl, rfl, za, zb, zs⟩
    all_goals
      first
        | have k1 : (Ea != 0) = true := by simpa using h1
        | have k1 : (Eb != 0) = true := by simpa using h1
        | have k1 : ¬ (a.size : Int) + (b.size : Int) < 4096 := by omega
      go_enter Tryd.func4, Tryd.ntmps4
      go_wp2_with fail
      refine HTa.out.mono ?_
      rintro e w1 ⟨va, rfl, _, hb1⟩
      have HB1 := Lib.hid hb1
      clear hb1
      go_wp2_with fail
      refine (HTb.out w1 HB1.out).mono ?_
      rintro e w2 ⟨vb, rfl, _, hb2⟩
      have HB2 : Hid (Below w.heap.size w w2) := HB1.out.trans (hb2.mono HB1.out.size)
      clear hb2
      go_wp2_with fail
      refine (HAw.out w2 HB2.out).mono ?_
      rintro e w3 ⟨rfl, hb3⟩
      have HB3 : Hid (Below w.heap.size w w3) := HB2.out.trans (hb3.mono HB2.out.size)
      clear hb3
      go_wp2_with fail
      refine (HAw.out w3 HB3.out).mono ?_
      rintro e w4 ⟨rfl, hb4⟩
      have HB4 : Hid (Below w.heap.size w w4) := HB3.out.trans (hb4.mono HB3.out.size)
      clear hb4
      go_wp2_with fail
      go_ret
      exact ⟨rfl, HB4.out⟩
end Go.Proofs.YtedloedfbegbkaaDoor
