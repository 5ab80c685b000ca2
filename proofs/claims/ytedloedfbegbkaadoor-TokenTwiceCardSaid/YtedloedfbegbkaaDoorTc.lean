/-
  Each term is a text whose only term it is; a text and its folded characters have the same terms: the walk of the statement.
-/
import Derived.Test.YtedloedfbegbkaaDoorTb
namespace Go.Proofs.YtedloedfbegbkaaDoor
open Go.RowKit

namespace Ut
/-- A text and its folded characters have the same terms. -/
theorem folded (s : List UInt8) (h : tokE s = 0) : encE ((dec s).map fold) = 0 ∧ tokE (encS ((dec s).map fold)) = 0 ∧ tokS (encS ((dec s).map fold)) = tokS s ∧ decS s = dec s ∧ decE s = 0 := by
  obtain ⟨h1, h2, h3, h4⟩ := tokE_ok h
  obtain ⟨e1, e2⟩ := enc_dec s.length s (Nat.le_refl _) h2
  have hw := allW_fold e2
  obtain ⟨d1, d2⟩ := dec_enc _ hw
  have hl := enc_fold_length (dec s)
  rw [e1] at hl
  rw [encS_yes hw]
  have t0 : tokE (enc ((dec s).map fold)) = 0 := tokE_of (by omega) d1 (by rw [d2, terms_fold]; exact h3)
  refine ⟨encE_yes hw, t0, ?_, decS_yes h2, decE_yes h2⟩
  rw [(tokE_ok t0).2.2.2, d2, terms_fold, h4]
end Ut

set_option maxRecDepth 100000 in
set_option maxHeartbeats 4000000 in
theorem twice_walk (w : World) (s : ByteArray) (hT : Tabs w) : Calls Tryd.prog 5 #[.string s] w fun e w' => e = .returned (.bool true) ∧ Below w.heap.size w w' := by
  have ht := tokens_any w s hT
  unfold TokPost at ht
  have HAw : Hid (∀ W, Below w.heap.size w W → Calls Tryd.prog 12 #[] W fun e' w' => e' = .returned (.bool true) ∧ Below W.heap.size W w') := fun W hb => awakeT_any W (hT.below hb)
  by_cases h0 : Ut.tokE s.data.toList = 0
  · have htw := Ut.twice s.data.toList h0
    have hfo := Ut.folded s.data.toList h0
    have hsz : s.size ≤ 4096 := by have := (Ut.tokE_ok h0).1; simpa using this
    have hl := Ut.decS_length s.data.toList
    rw [show s.data.toList.length = s.size from by simp] at hl
    rw [h0] at ht
    have HF : Hid (∀ W, Below w.heap.size w W → Calls Tryd.prog 10 #[.string s] W fun e w' => ∃ v, e = .returned (.tuple #[v, .int .i64 0]) ∧ IntS w' v ((Ut.dec s.data.toList).map Ut.fold) ∧ Below W.heap.size W w') := fun W hb => by
      have h := folded_any W s (hT.below hb) (by omega)
      refine h.mono fun e w' ⟨v, h1, h2, h3⟩ => ?_
      rw [hfo.2.2.2.1] at h2 hl
      rw [hfo.2.2.2.2] at h1
      exact ⟨v, h1, h2.ints (by rw [List.length_map]; omega), h3⟩
    obtain ⟨U, hU⟩ : ∃ U : ByteArray, U = ⟨(Ut.encS ((Ut.dec s.data.toList).map Ut.fold)).toArray⟩ := ⟨_, rfl⟩
    have HE : Hid (∀ W v, Below w.heap.size w W → IntS W v ((Ut.dec s.data.toList).map Ut.fold) → Calls Tryd.prog 15 #[v] W fun e w' => e = .returned (.tuple #[.string U, .int .i64 0]) ∧ Below W.heap.size W w') := fun W v hb hv => by
      have h := encode_any W v _ hv (by rw [List.length_map]; rw [hfo.2.2.2.1] at hl; omega)
      refine h.mono fun e w' ⟨h1, h2⟩ => ?_
      rw [hfo.1, ← hU] at h1
      exact ⟨h1, h2⟩
    have HT2 : Hid (∀ W, Below w.heap.size w W → Calls Tryd.prog 6 #[.string U] W fun e w' => ∃ v, e = .returned (.tuple #[v, .int .i64 0]) ∧ TkS w' v (Ut.toks (Ut.tokS s.data.toList)) ∧ Below W.heap.size W w') := fun W hb => by
      have h := tokens_any W U (hT.below hb)
      refine h.mono fun e w' ⟨v, h1, h2, h3⟩ => ?_
      have hUd : U.data.toList = Ut.encS ((Ut.dec s.data.toList).map Ut.fold) := by rw [hU]
      rw [hUd, hfo.2.1] at h1
      rw [hUd, hfo.2.2.1] at h2
      exact ⟨v, h1, h2.tks, h3⟩
    have HO1 : Hid (∀ W, Below w.heap.size w W → ∀ t, t ∈ Ut.tokS s.data.toList → Calls Tryd.prog 8 #[.string ⟨t.toArray⟩] W fun e w' => e = .returned (.tuple #[.string ⟨t.toArray⟩, .int .i64 0]) ∧ Below W.heap.size W w') := fun W hb t hm => by
      have h := term_any W ⟨t.toArray⟩ (hT.below hb)
      obtain ⟨e1, e2, _, _⟩ := htw t hm
      refine h.mono fun e w' ⟨h1, h2⟩ => ⟨?_, h2⟩
      rw [show (⟨t.toArray⟩ : ByteArray).data.toList = t from rfl, e1, e2] at h1
      exact h1
    have HSz : Hid (∀ t, t ∈ Ut.tokS s.data.toList → 0 < (⟨t.toArray⟩ : ByteArray).size ∧ (⟨t.toArray⟩ : ByteArray).size ≤ 64) := fun t hm => by
      rw [mk_size]
      exact (htw t hm).2.2
    have HSa : Hid (∀ W u v, TkS W u (Ut.toks (Ut.tokS s.data.toList)) → TkS W v (Ut.toks (Ut.tokS s.data.toList)) → Calls Tryd.prog 13 #[u, v] W fun e' w' => e' = .returned (.bool true) ∧ Below W.heap.size W w') := fun W u v hu hv => by
      have h := same_any W u v _ _ hu hv
      rw [decide_eq_true rfl] at h
      exact h
    generalize (Ut.dec s.data.toList).map Ut.fold = F at *
    generalize Ut.tokS s.data.toList = X at *
    have HT1 := Lib.hid ht
    clear ht htw hfo h0 hT hU hsz hl
    go_enter Tryd.func5, Tryd.ntmps5
    go_wp2_with fail
    refine HT1.out.mono ?_
    rintro e w1 ⟨v, rfl, hown, hb1⟩
    have HO := Lib.hid hown.tks
    have HB1 := Lib.hid hb1
    obtain ⟨g, a, cap, rfl, _, hcap, ha, _, hc⟩ := hown.each
    have HA := Lib.hid ha
    have HC := Lib.hid hc
    clear hb1 hown ha hc
    obtain ⟨n, hn⟩ : ∃ n, n = X.length := ⟨_, rfl⟩
    have HN := Lib.hid hn
    have hn2 : n ≤ 9223372036854775807 := by omega
    rw [← hn] at HA HO ⊢
    clear hn hcap
    go_wp2_with fail
    refine (HAw.out w1 HB1.out).mono ?_
    rintro e w2 ⟨rfl, hb2⟩
    have HW : Hid (∀ wx, Below w1.heap.size w1 wx → Below w.heap.size w wx) := fun wx hb => HB1.out.trans (hb.mono HB1.out.size)
    have H12 := Lib.hid hb2
    clear hb2 HAw
    go_wp2_with fail
    go_loopg [5] n (fun gg iv wx => ∃ i : Nat, i ≤ n ∧ gg = n - i ∧ iv = .int .i64 (i : Int) ∧ Below w1.heap.size w1 wx)
    case atStart => exact ⟨0, Nat.zero_le _, rfl, rfl, H12.out⟩
    case round =>
      obtain ⟨i, hi, rfl, rfl, hb1⟩ := hrel
      have HBB := Lib.hid hb1
      clear hb1
      by_cases hin : i < n
      · have i2 : (i : Int) < (n : Int) := by omega
        have ix : i < X.length := by rw [← HN.out]; exact hin
        obtain rfl := HA.out (by omega)
        have hm := List.getElem_mem ix
        have hO := Lib.hid (HO1.out wr (HW.out _ HBB.out) X[i] hm)
        obtain ⟨z1, z2⟩ := HSz.out X[i] hm
        obtain ⟨c1, c2⟩ := HC.out wr HBB.out i ix
        have HCi := Lib.hid (fun W hb => HC.out W hb i ix)
        generalize (⟨X[i].toArray⟩ : ByteArray) = T at *
        have hTT : (T.toList == T.toList) = true := by simp
        have hTT2 : (T.toList != T.toList) = false := by simp
        clear hm
        go_wp2_with fail
        refine hO.out.mono ?_
        rintro e w3 ⟨rfl, hb3⟩
        have HB3 : Hid (Below w1.heap.size w1 w3) := HBB.out.trans (hb3.mono HBB.out.size)
        obtain ⟨d1, d2⟩ := HCi.out w3 HB3.out
        have z3 : ¬ (T.size : Int) = 0 := by omega
        have z4 : ¬ (64 : Int) < (T.size : Int) := by omega
        have z5 : ((T.size : Int) == 0) = false := beq_eq_false_iff_ne.2 z3
        have z6 : ¬ T = ByteArray.empty := fun h => by rw [h] at z1; exact absurd z1 (by decide)
        clear hb3 c1 c2
        go_wp2_with fail
        go_roundg (n - (i + 1))
        case rel => exact ⟨i + 1, by omega, rfl, by go_num, HB3.out⟩
        case measure => omega
      · have i2 : ¬ (i : Int) < (n : Int) := by omega
        go_wp2_with fail
        refine (HF.out wr (HW.out _ HBB.out)).mono ?_
        rintro e w3 ⟨v3, rfl, hi3, hb3⟩
        have HI3 := Lib.hid hi3
        have HB3 : Hid (Below w1.heap.size w1 w3) := HBB.out.trans (hb3.mono HBB.out.size)
        clear hi3 hb3
        go_wp2_with fail
        refine (HE.out w3 v3 (HW.out _ HB3.out) HI3.out).mono ?_
        rintro e w4 ⟨rfl, hb4⟩
        have HB4 : Hid (Below w1.heap.size w1 w4) := HB3.out.trans (hb4.mono HB3.out.size)
        clear hb4
        go_wp2_with fail
        refine (HT2.out w4 (HW.out _ HB4.out)).mono ?_
        rintro e w5 ⟨v5, rfl, hi5, hb5⟩
        have HB5 : Hid (Below w1.heap.size w1 w5) := HB4.out.trans (hb5.mono HB4.out.size)
        have HI5 := Lib.hid hi5
        clear hb5 hi5
        go_wp2_with fail
        refine (HSa.out w5 _ _ (HO.out.below HB5.out (Nat.le_refl _)) HI5.out).mono ?_
        rintro e w6 ⟨rfl, hb6⟩
        have HB6 : Hid (Below w.heap.size w w6) := HW.out _ (HB5.out.trans (hb6.mono HB5.out.size))
        clear hb6
        go_wp2_with fail
        go_ret
        exact ⟨rfl, HB6.out⟩
  · have hS := Ut.tokS_no h0
    rw [hS] at ht
    have h1 : (Ut.tokE s.data.toList != 0) = true := by simpa using h0
    generalize Ut.tokE s.data.toList = E at *
    have HT1 := Lib.hid ht
    clear ht hS hT
    go_enter Tryd.func5, Tryd.ntmps5
    go_wp2_with fail
    refine HT1.out.mono ?_
    rintro e w1 ⟨v, rfl, hown, hb1⟩
    have HB1 := Lib.hid hb1
    obtain ⟨_, a, cap, rfl, _⟩ := hown.opened
    rw [show (Ut.toks []).length = 0 from rfl] 
    clear hb1 hown
    go_wp2_with fail
    refine (HAw.out w1 HB1.out).mono ?_
    rintro e w2 ⟨rfl, hb2⟩
    have HB2 : Hid (Below w.heap.size w w2) := HB1.out.trans (hb2.mono HB1.out.size)
    clear hb2
    go_wp2_with fail
    refine (HAw.out w2 HB2.out).mono ?_
    rintro e w3 ⟨rfl, hb3⟩
    have HB3 : Hid (Below w.heap.size w w3) := HB2.out.trans (hb3.mono HB2.out.size)
    clear hb3
    go_wp2_with fail
    go_ret
    exact ⟨rfl, HB3.out⟩
end Go.Proofs.YtedloedfbegbkaaDoor
