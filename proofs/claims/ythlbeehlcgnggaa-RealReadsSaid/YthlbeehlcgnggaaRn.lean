/-
  A text stands between the whole numbers about it: the walk of the statement.
-/
import Derived.Test.YthlbeehlcgnggaaRj
namespace Go.Proofs.Ythlbeehlcgnggaa
open Go.RowKit

/-- The five texts' numbers. -/
structure Rf.Five (D P E : List UInt8) (n X A B : Nat) : Prop where
  x : Rf.parse (D ++ 46 :: P) = some X
  y : Rf.parse (45 :: (D ++ 46 :: P)) = some (X + 9223372036854775808)
  z : Rf.parse (48 :: 48 :: (D ++ 46 :: P)) = some X
  a : Rf.parse D = some A
  b : Rf.parse E = some B
  ax : A ≤ X
  xb : X < B
  eq : n = 0 ↔ X = A
  top : B ≤ 9218868437227405312

theorem Rf.five (W n : Nat) (hW : W < 4294967296) (hn : n < 1000) (P : List UInt8) (hP : P = List.replicate (3 - (Rf.dgs n).length) 48 ++ Rf.dgs n) : ∃ X A B, Rf.Five (Rf.dgs W) P (Rf.dgs (W + 1)) n X A B := by
  have d1 := Rf.dgs_all W
  have d2 := Rf.dgs_dec W
  have d3 := Rf.dgs_pos W
  have d4 := Rf.dgs_len 10 W (by decide) (by omega)
  have e1 := Rf.dgs_all (W + 1)
  have e2 := Rf.dgs_dec (W + 1)
  have e3 := Rf.dgs_pos (W + 1)
  have e4 := Rf.dgs_len 10 (W + 1) (by decide) (by omega)
  have p1 : P.all Rf.isD = true := by
    rw [hP, List.all_append, Rf.zeros_all, Rf.dgs_all]
    rfl
  have p2 : Rf.dec 0 P = n := by rw [hP, Rf.dec_zeros, Rf.dgs_dec]
  have p3 : P.length = 3 := by
    have := Rf.dgs_len 3 n (by decide) (by omega)
    rw [hP, List.length_append, List.length_replicate]
    omega
  have hx : Rf.dec 0 (Rf.dgs W ++ P) = W * 1000 + n := by
    rw [Rf.dec_append, d2, Rf.dec_shift, p2, p3]
  have m1 : Rf.ratio W 1 = Rf.ratio (W * 1000) 1000 := by
    rw [← Rf.ratio_mul W 1 1000 (by decide) (by decide) (by omega)]
  have m2 : Rf.ratio (W + 1) 1 = Rf.ratio ((W + 1) * 1000) 1000 := by
    rw [← Rf.ratio_mul (W + 1) 1 1000 (by decide) (by decide) (by omega)]
  have s1 := Rf.size_point (Rf.dgs W) P d3 (by omega) d1 (by omega) (by omega) p1
  have s2 := Rf.size_point (48 :: 48 :: Rf.dgs W) P (by simp) (by simp; omega) (by rw [List.all_cons, List.all_cons, d1]; rfl) (by omega) (by omega) p1
  have s3 := Rf.size_whole (Rf.dgs W) d3 (by omega) d1
  have s4 := Rf.size_whole (Rf.dgs (W + 1)) e3 (by omega) e1
  obtain ⟨n1, n2, n3⟩ := Rf.number_of (Rf.dgs W) (46 :: P) d3 d1
  obtain ⟨n4, n5, _⟩ := Rf.number_of (48 :: 48 :: Rf.dgs W) (46 :: P) (by simp) (by rw [List.all_cons, List.all_cons, d1]; rfl)
  obtain ⟨n6, n7, _⟩ := Rf.number_of (Rf.dgs W) [] d3 d1
  obtain ⟨n8, n9, _⟩ := Rf.number_of (Rf.dgs (W + 1)) [] e3 e1
  rw [List.append_nil] at n6 n7 n8 n9
  have hz : Rf.dec 0 (48 :: 48 :: Rf.dgs W ++ P) = W * 1000 + n := hx
  rw [hx, p3] at s1
  rw [hz, p3] at s2
  rw [d2] at s3
  rw [e2] at s4
  have hxb : Rf.ratio (W * 1000 + n) 1000 < Rf.ratio ((W + 1) * 1000) 1000 := Rf.ratio_lt _ _ (by omega) (by omega)
  have hax : n ≠ 0 → Rf.ratio (W * 1000) 1000 < Rf.ratio (W * 1000 + n) 1000 := fun h => Rf.ratio_lt _ _ (by omega) (by omega)
  have hax0 : n = 0 → Rf.ratio (W * 1000) 1000 = Rf.ratio (W * 1000 + n) 1000 := fun h => by rw [h, Nat.add_zero]
  refine ⟨Rf.ratio (W * 1000 + n) 1000, Rf.ratio W 1, Rf.ratio (W + 1) 1, ?_, ?_, ?_, ?_, ?_, ?_, ?_, ?_, ?_⟩
  · rw [n2, n1, s1]; rfl
  · rw [n3, n1, s1]; rfl
  · rw [show (48 :: 48 :: (Rf.dgs W ++ 46 :: P)) = (48 :: 48 :: Rf.dgs W) ++ 46 :: P from rfl, n5, n4, s2]; rfl
  · rw [n7, n6, s3]; rfl
  · rw [n9, n8, s4]; rfl
  · rw [m1]
    by_cases h : n = 0
    · exact Nat.le_of_eq (hax0 h)
    · exact Nat.le_of_lt (hax h)
  · rw [m2]; exact hxb
  · rw [m1]
    constructor
    · intro h; exact (hax0 h).symm
    · intro h
      by_cases h0 : n = 0
      · exact h0
      · have := hax h0
        omega
  · exact Rf.ratio_le _ _ (by decide) (by omega) (by decide)

theorem five_lists (w p : ByteArray) : (w ++ ⟨#[46]⟩ ++ p).data.toList = w.data.toList ++ 46 :: p.data.toList ∧ (⟨#[45]⟩ ++ w ++ ⟨#[46]⟩ ++ p).data.toList = 45 :: (w.data.toList ++ 46 :: p.data.toList) ∧ (⟨#[48, 48]⟩ ++ w ++ ⟨#[46]⟩ ++ p).data.toList = 48 :: 48 :: (w.data.toList ++ 46 :: p.data.toList) := by
  refine ⟨?_, ?_, ?_⟩ <;> simp [ByteArray.data_append]

theorem parse_is (s : ByteArray) (x : Nat) (hs : s.size ≤ 1000) (h : Rf.parse s.data.toList = some x) : Hid (∀ W, Calls Try.prog 16 #[.string s] W fun e w' => e = .returned (.tuple #[.int .u64 x, .int .i64 0]) ∧ Below W.heap.size W w') := fun W => by
  have := parse_any s (by omega) W
  rw [h] at this
  exact this

set_option maxRecDepth 100000 in
set_option maxHeartbeats 4000000 in
theorem reads_walk (W part : Nat) (hW : W < 4294967296) (w : World) :
    Calls Try.prog 7 #[.int .u32 W, .int .u16 part] w fun e w' => e = .returned (.bool true) ∧ Below w.heap.size w w' := by
  obtain ⟨n, hn⟩ : ∃ n, part % 1000 = n := ⟨_, rfl⟩
  have hn1 : n < 1000 := by omega
  have n1 : (part : Int) % 1000 = (n : Int) := by omega
  obtain ⟨wS, ew⟩ : ∃ wS : ByteArray, wS = ⟨(Rf.dgs W).toArray⟩ := ⟨_, rfl⟩
  obtain ⟨nS, en⟩ : ∃ wS : ByteArray, wS = ⟨(Rf.dgs n).toArray⟩ := ⟨_, rfl⟩
  obtain ⟨bS, eb⟩ : ∃ wS : ByteArray, wS = ⟨(Rf.dgs (W + 1)).toArray⟩ := ⟨_, rfl⟩
  obtain ⟨P, eP⟩ : ∃ P, P = List.replicate (3 - (Rf.dgs n).length) 48 ++ Rf.dgs n := ⟨_, rfl⟩
  obtain ⟨pS, ep⟩ : ∃ pS : ByteArray, pS = ⟨P.toArray⟩ := ⟨_, rfl⟩
  obtain ⟨X, A, B, h5⟩ := Rf.five W n hW hn1 P eP
  have hd1 := fun V => decimal_any W (by omega) V
  have hd2 := fun V => decimal_any n (by omega) V
  have hd3 := fun V => decimal_any (W + 1) (by omega) V
  rw [← ew] at hd1
  rw [← en] at hd2
  rw [← eb] at hd3
  have lw : wS.data.toList = Rf.dgs W := by rw [ew]
  have lb : bS.data.toList = Rf.dgs (W + 1) := by rw [eb]
  have ln : nS.data.toList = Rf.dgs n := by rw [en]
  have lp : pS.data.toList = P := by rw [ep]
  have lP : P.length = 3 := by
    have := Rf.dgs_len 3 n (by decide) (by omega)
    rw [eP, List.length_append, List.length_replicate]
    omega
  have zw : wS.size ≤ 10 := by
    have h1 : wS.data.toList.length = wS.size := Array.length_toList
    have h2 := Rf.dgs_len 10 W (by decide) (by omega)
    rw [lw] at h1
    omega
  have zb : bS.size ≤ 10 := by
    have h1 : bS.data.toList.length = bS.size := Array.length_toList
    have h2 := Rf.dgs_len 10 (W + 1) (by decide) (by omega)
    rw [lb] at h1
    omega
  have zp : pS.size = 3 := by
    have h1 : pS.data.toList.length = pS.size := Array.length_toList
    rw [lp] at h1
    omega
  have zn : nS.data.toList.length = nS.size := Array.length_toList
  have zn3 : nS.size ≤ 3 := by
    have h2 := Rf.dgs_len 3 n (by decide) (by omega)
    rw [ln] at zn
    omega
  obtain ⟨l1, l2, l3⟩ := five_lists wS pS
  rw [lw, lp] at l1 l2 l3
  have z1 : (⟨#[46]⟩ : ByteArray).size = 1 := rfl
  have z2 : (⟨#[45]⟩ : ByteArray).size = 1 := rfl
  have z3 : (⟨#[48, 48]⟩ : ByteArray).size = 2 := rfl
  have z4 : (⟨#[48]⟩ : ByteArray).size = 1 := rfl
  have H1 := parse_is (wS ++ ⟨#[46]⟩ ++ pS) X (by rw [ByteArray.size_append, ByteArray.size_append]; omega) (by rw [l1]; exact h5.x)
  have H2 := parse_is (⟨#[45]⟩ ++ wS ++ ⟨#[46]⟩ ++ pS) _ (by rw [ByteArray.size_append, ByteArray.size_append, ByteArray.size_append]; omega) (by rw [l2]; exact h5.y)
  have H3 := parse_is (⟨#[48, 48]⟩ ++ wS ++ ⟨#[46]⟩ ++ pS) X (by rw [ByteArray.size_append, ByteArray.size_append, ByteArray.size_append]; omega) (by rw [l3]; exact h5.z)
  have H4 := parse_is wS A (by omega) (by rw [lw]; exact h5.a)
  have H5 := parse_is bS B (by omega) (by rw [lb]; exact h5.b)
  have q1 : ¬ 9223372036854775807 < wS.size + (⟨#[46]⟩ : ByteArray).size := by omega
  have q2 : ¬ 9223372036854775807 < (wS ++ ⟨#[46]⟩).size + pS.size := by rw [ByteArray.size_append]; omega
  have q3 : ¬ 9223372036854775807 < (⟨#[45]⟩ : ByteArray).size + wS.size := by omega
  have q4 : ¬ 9223372036854775807 < (⟨#[45]⟩ ++ wS).size + (⟨#[46]⟩ : ByteArray).size := by rw [ByteArray.size_append]; omega
  have q5 : ¬ 9223372036854775807 < (⟨#[45]⟩ ++ wS ++ ⟨#[46]⟩).size + pS.size := by rw [ByteArray.size_append, ByteArray.size_append]; omega
  have q6 : ¬ 9223372036854775807 < (⟨#[48, 48]⟩ : ByteArray).size + wS.size := by omega
  have q7 : ¬ 9223372036854775807 < (⟨#[48, 48]⟩ ++ wS).size + (⟨#[46]⟩ : ByteArray).size := by rw [ByteArray.size_append]; omega
  have q8 : ¬ 9223372036854775807 < (⟨#[48, 48]⟩ ++ wS ++ ⟨#[46]⟩).size + pS.size := by rw [ByteArray.size_append, ByteArray.size_append]; omega
  have HD1 := Lib.hid hd1
  have HD2 := Lib.hid hd2
  have HD3 := Lib.hid hd3
  have HAw := Lib.hid (fun V => awake_any V)
  have w0 : IntKind.i64.wrap ((W : Int) + 1) = ((W + 1 : Nat) : Int) := by
    rw [Int.natCast_add]
    exact IntWalk.i64_in _ (by omega)
  have hE := h5.eq
  have hax := h5.ax
  have hxb := h5.xb
  have htop := h5.top
  have L1 : Hid (∀ V, Calls Try.prog 11 #[.int .u64 X, .int .u64 A, .int .u64 B] V fun e w' => e = .returned (.bool true) ∧ w' = V) := fun V => by
    have h := within_any X A B V
    rw [Rf.within, Rf.less_up X A (by omega) (by omega), Rf.less_up B X (by omega) (by omega), decide_eq_false (by omega), decide_eq_false (by omega)] at h
    exact h
  have L2 : Hid (∀ V, Calls Try.prog 9 #[.int .u64 X, .int .u64 B] V fun e w' => e = .returned (.bool true) ∧ w' = V) := fun V => by
    have h := less_any X B V
    rw [Rf.less_up X B (by omega) (by omega), decide_eq_true (by omega)] at h
    exact h
  have L3 : Hid (∀ V, Calls Try.prog 9 #[.int .u64 A, .int .u64 B] V fun e w' => e = .returned (.bool true) ∧ w' = V) := fun V => by
    have h := less_any A B V
    rw [Rf.less_up A B (by omega) (by omega), decide_eq_true (by omega)] at h
    exact h
  have y1 : IntKind.u64.wrap ((X : Int) + 9223372036854775808) = ((X + 9223372036854775808 : Nat) : Int) := by
    rw [Int.natCast_add]
    exact IntWalk.u64_in _ (by omega)
  have b1 : (((n : Int) == 0) == ((X : Int) == (A : Int))) = true := by
    by_cases h : n = 0
    · rw [show ((n : Int) == 0) = true from beq_iff_eq.2 (by omega), show ((X : Int) == (A : Int)) = true from beq_iff_eq.2 (by have := hE.1 h; omega)]
      rfl
    · rw [show ((n : Int) == 0) = false from beq_eq_false_iff_ne.2 (by omega), show ((X : Int) == (A : Int)) = false from beq_eq_false_iff_ne.2 (by have := fun e => h (hE.2 e); omega)]
      rfl
  have hnl : Hid (nS.data.toList = List.replicate (nS.size - nS.size) 48 ++ Rf.dgs n) := by
    show _ = _
    rw [Nat.sub_self, ln]
    rfl
  have HP : Hid (pS = ⟨(List.replicate (3 - nS.size) 48 ++ Rf.dgs n).toArray⟩) := by
    show _ = _
    rw [ep, eP, ← zn, ln]
  clear ew en eb eP ep h5 hd1 hd2 hd3 lw lb ln lp lP zw zb zn l1 l2 l3 hE hax hxb htop hn
  go_enter Try.func7, Try.ntmps7
  go_wp2_with fail
  refine (HD1.out _).mono ?_
  rintro e w1 ⟨rfl, hb⟩
  have HB1 := Lib.hid hb
  clear hb
  go_wp2_with fail
  refine (HD2.out _).mono ?_
  rintro e w2 ⟨rfl, hb⟩
  have HB2 : Hid (Below w.heap.size w w2) := chain HB1.out hb
  clear hb
  go_wp2_with fail
  go_loopg [7] (3 - nS.size) (fun g vs wx => ∃ s : ByteArray, nS.size ≤ s.size ∧ s.size ≤ 3 ∧ 3 - s.size = g ∧ vs = .string s ∧ Hid (s.data.toList = List.replicate (s.size - nS.size) 48 ++ Rf.dgs n) ∧ wx = w2)
  case atStart => exact ⟨nS, Nat.le_refl _, zn3, rfl, rfl, hnl, rfl⟩
  case round =>
    obtain ⟨s, hs1, hs2, rfl, rfl, hS, rfl⟩ := hrel
    clear hnl
    by_cases hs3 : s.size < 3
    · have i1 : (s.size : Int) < 3 := by omega
      have q9 : ¬ 9223372036854775807 < (⟨#[48]⟩ : ByteArray).size + s.size := by omega
      have hsz : (⟨#[48]⟩ ++ s : ByteArray).size = s.size + 1 := by rw [ByteArray.size_append]; omega
      have hst : Hid ((⟨#[48]⟩ ++ s : ByteArray).data.toList = List.replicate ((⟨#[48]⟩ ++ s : ByteArray).size - nS.size) 48 ++ Rf.dgs n) := by
        show _ = _
        rw [hsz, show s.size + 1 - nS.size = s.size - nS.size + 1 by omega, List.replicate_succ, ByteArray.data_append, Array.toList_append, hS.out]
        rfl
      have HSZ := Lib.hid hsz
      clear hS hsz
      go_wp2_with fail
      go_roundg (3 - (s.size + 1))
      case rel => exact ⟨⟨#[48]⟩ ++ s, by rw [HSZ.out]; omega, by rw [HSZ.out]; omega, by rw [HSZ.out], rfl, hst, rfl⟩
      case measure => omega
    · have hs4 : s = pS := by
        have h := hS.out
        rw [show s.size - nS.size = 3 - nS.size by omega] at h
        rw [HP.out, ← h]
      subst hs4
      have i1 : ¬ (s.size : Int) < 3 := by omega
      clear hS HP
      go_wp2_with fail
      refine (H1.out _).mono ?_
      rintro e w3 ⟨rfl, hb⟩
      have HB3 : Hid (Below w.heap.size w w3) := chain HB2.out hb
      clear hb
      go_wp2_with fail
      refine (H2.out _).mono ?_
      rintro e w4 ⟨rfl, hb⟩
      have HB4 : Hid (Below w.heap.size w w4) := chain HB3.out hb
      clear hb
      go_wp2_with fail
      refine (H3.out _).mono ?_
      rintro e w5 ⟨rfl, hb⟩
      have HB5 : Hid (Below w.heap.size w w5) := chain HB4.out hb
      clear hb
      go_wp2_with fail
      refine (H4.out _).mono ?_
      rintro e w6 ⟨rfl, hb⟩
      have HB6 : Hid (Below w.heap.size w w6) := chain HB5.out hb
      clear hb
      go_wp2_with fail
      refine (HD3.out _).mono ?_
      rintro e w7 ⟨rfl, hb⟩
      have HB7 : Hid (Below w.heap.size w w7) := chain HB6.out hb
      clear hb
      go_wp2_with fail
      refine (H5.out _).mono ?_
      rintro e w8 ⟨rfl, hb⟩
      have HB8 : Hid (Below w.heap.size w w8) := chain HB7.out hb
      clear hb
      go_wp2_with fail
      refine (HAw.out _).mono ?_
      rintro e w9 ⟨rfl, hb⟩
      have HB9 : Hid (Below w.heap.size w w9) := chain HB8.out hb
      clear hb
      go_wp2_with fail
      refine (L1.out _).mono ?_
      rintro e w10 ⟨rfl, rfl⟩
      go_wp2_with fail
      refine (L2.out _).mono ?_
      rintro e w11 ⟨rfl, rfl⟩
      go_wp2_with fail
      refine (L3.out _).mono ?_
      rintro e w12 ⟨rfl, rfl⟩
      go_wp2_with fail
      go_ret
      exact ⟨rfl, HB9.out⟩

end Go.Proofs.Ythlbeehlcgnggaa
