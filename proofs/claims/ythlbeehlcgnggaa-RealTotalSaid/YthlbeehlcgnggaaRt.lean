/-
  The order is total, and that of the numbers: the walk of the statement.
-/
import Derived.Test.YthlbeehlcgnggaaRa
namespace Go.Proofs.Ythlbeehlcgnggaa
open Go.RowKit

theorem Rf.less_asym (a b : Nat) : ¬ (Rf.less a b = true ∧ Rf.less b a = true) := by
  unfold Rf.less
  cases Rf.none a <;> cases Rf.none b <;> simp <;> omega
theorem Rf.less_trans (a b c : Nat) : Rf.less a b = true → Rf.less b c = true → Rf.less a c = true := by
  unfold Rf.less
  cases Rf.none a <;> cases Rf.none b <;> cases Rf.none c <;> simp <;> omega
theorem Rf.less_is (a b : Nat) : Rf.none a = true ∧ Rf.none b = true ∧ Rf.less a b = false ∧ Rf.less b a = false ∨ Rf.none a = true ∧ Rf.none b = false ∧ Rf.less a b = false ∧ Rf.less b a = true ∨
    Rf.none a = false ∧ Rf.none b = true ∧ Rf.less a b = true ∧ Rf.less b a = false ∨ Rf.none a = false ∧ Rf.none b = false ∧ (FloatKind.f64.format.order a b == some .lt) = Rf.less a b := by
  have hl : (FloatKind.f64.format.order a b == some .lt) = (!Rf.none a && !Rf.none b && decide (Rf.key a < Rf.key b)) := Rf.lss_eq a b
  rw [hl]
  unfold Rf.less
  cases Rf.none a <;> cases Rf.none b <;> simp

set_option maxRecDepth 100000 in
set_option maxHeartbeats 2000000 in
theorem total_walk (a b c : Nat) (w : World) :
    Calls Try.prog 6 #[.int .u64 a, .int .u64 b, .int .u64 c] w fun e w' => e = .returned (.bool true) ∧ Below w.heap.size w w' := by
  have h0 := Lib.hid (awake_any w)
  have ab := Lib.hid (fun W => less_any a b W)
  have ba := Lib.hid (fun W => less_any b a W)
  have bc := Lib.hid (fun W => less_any b c W)
  have ac := Lib.hid (fun W => less_any a c W)
  have e1 := from_ext
  have t1 : (a : Int).toNat = a := Int.toNat_natCast a
  have t2 : (b : Int).toNat = b := Int.toNat_natCast b
  have q1 : (FloatKind.f64.format.order a a != some .eq) = Rf.none a := Rf.self_eq a
  have q2 : (FloatKind.f64.format.order b b != some .eq) = Rf.none b := Rf.self_eq b
  have q3 := Rf.less_asym a b
  have q4 := Rf.less_trans a b c
  have q5 := Rf.less_is a b
  generalize Rf.less a b = L1 at *
  generalize Rf.less b a = L2 at *
  generalize Rf.less b c = L3 at *
  generalize Rf.less a c = L4 at *
  generalize Rf.none a = NA at *
  generalize Rf.none b = NB at *
  obtain ⟨o, ho⟩ : ∃ o, (FloatKind.f64.format.order a b == some .lt) = o := ⟨_, rfl⟩
  rw [ho] at q5
  have hcase : (NA = false ∧ NB = true ∧ L1 = true ∧ L2 = false ∧ L3 = true ∧ L4 = true) ∨ (NA = false ∧ NB = false ∧ L1 = true ∧ L2 = false ∧ L3 = true ∧ L4 = true ∧ o = true) ∨
      (NA = false ∧ NB = true ∧ L1 = true ∧ L2 = false ∧ L3 = false) ∨ (NA = false ∧ NB = false ∧ L1 = true ∧ L2 = false ∧ L3 = false ∧ o = true) ∨
      (NA = true ∧ NB = true ∧ L1 = false ∧ L2 = false) ∨ (NA = true ∧ NB = false ∧ L1 = false ∧ L2 = true) ∨ (NA = false ∧ NB = false ∧ L1 = false ∧ o = false) := by
    clear h0 ab ba bc ac e1 t1 t2 q1 q2 ho
    revert q3 q4 q5
    cases NA <;> cases NB <;> cases L1 <;> cases L2 <;> cases L3 <;> cases L4 <;> cases o <;> decide
  clear q3 q4 q5
  rcases hcase with ⟨rfl, rfl, rfl, rfl, rfl, rfl⟩ | ⟨rfl, rfl, rfl, rfl, rfl, rfl, rfl⟩ | ⟨rfl, rfl, rfl, rfl, rfl⟩ | ⟨rfl, rfl, rfl, rfl, rfl, rfl⟩ | ⟨rfl, rfl, rfl, rfl⟩ | ⟨rfl, rfl, rfl, rfl⟩ | ⟨rfl, rfl, rfl, rfl⟩
  · go_enter Try.func6, Try.ntmps6
    go_wp2_with fail
    refine h0.out.mono ?_
    rintro e w1 ⟨rfl, hb⟩
    have HB1 := Lib.hid hb
    clear hb
    go_wp2_with fail
    refine (ab.out _).mono ?_
    rintro e w2 ⟨rfl, rfl⟩
    go_wp2_with fail
    refine (ba.out _).mono ?_
    rintro e w2 ⟨rfl, rfl⟩
    go_wp2_with fail
    refine (ab.out _).mono ?_
    rintro e w2 ⟨rfl, rfl⟩
    go_wp2_with fail
    refine (bc.out _).mono ?_
    rintro e w2 ⟨rfl, rfl⟩
    go_wp2_with fail
    refine (ac.out _).mono ?_
    rintro e w2 ⟨rfl, rfl⟩
    go_wp2_with fail
    go_ret
    exact ⟨rfl, HB1.out⟩
  · go_enter Try.func6, Try.ntmps6
    go_wp2_with fail
    refine h0.out.mono ?_
    rintro e w1 ⟨rfl, hb⟩
    have HB1 := Lib.hid hb
    clear hb
    go_wp2_with fail
    refine (ab.out _).mono ?_
    rintro e w2 ⟨rfl, rfl⟩
    go_wp2_with fail
    refine (ba.out _).mono ?_
    rintro e w2 ⟨rfl, rfl⟩
    go_wp2_with fail
    refine (ab.out _).mono ?_
    rintro e w2 ⟨rfl, rfl⟩
    go_wp2_with fail
    refine (bc.out _).mono ?_
    rintro e w2 ⟨rfl, rfl⟩
    go_wp2_with fail
    refine (ac.out _).mono ?_
    rintro e w2 ⟨rfl, rfl⟩
    go_wp2_with fail
    refine (ab.out _).mono ?_
    rintro e w2 ⟨rfl, rfl⟩
    go_wp2_with fail
    go_ret
    exact ⟨rfl, HB1.out⟩
  · go_enter Try.func6, Try.ntmps6
    go_wp2_with fail
    refine h0.out.mono ?_
    rintro e w1 ⟨rfl, hb⟩
    have HB1 := Lib.hid hb
    clear hb
    go_wp2_with fail
    refine (ab.out _).mono ?_
    rintro e w2 ⟨rfl, rfl⟩
    go_wp2_with fail
    refine (ba.out _).mono ?_
    rintro e w2 ⟨rfl, rfl⟩
    go_wp2_with fail
    refine (ab.out _).mono ?_
    rintro e w2 ⟨rfl, rfl⟩
    go_wp2_with fail
    refine (bc.out _).mono ?_
    rintro e w2 ⟨rfl, rfl⟩
    go_wp2_with fail
    go_ret
    exact ⟨rfl, HB1.out⟩
  · go_enter Try.func6, Try.ntmps6
    go_wp2_with fail
    refine h0.out.mono ?_
    rintro e w1 ⟨rfl, hb⟩
    have HB1 := Lib.hid hb
    clear hb
    go_wp2_with fail
    refine (ab.out _).mono ?_
    rintro e w2 ⟨rfl, rfl⟩
    go_wp2_with fail
    refine (ba.out _).mono ?_
    rintro e w2 ⟨rfl, rfl⟩
    go_wp2_with fail
    refine (ab.out _).mono ?_
    rintro e w2 ⟨rfl, rfl⟩
    go_wp2_with fail
    refine (bc.out _).mono ?_
    rintro e w2 ⟨rfl, rfl⟩
    go_wp2_with fail
    refine (ab.out _).mono ?_
    rintro e w2 ⟨rfl, rfl⟩
    go_wp2_with fail
    go_ret
    exact ⟨rfl, HB1.out⟩
  · go_enter Try.func6, Try.ntmps6
    go_wp2_with fail
    refine h0.out.mono ?_
    rintro e w1 ⟨rfl, hb⟩
    have HB1 := Lib.hid hb
    clear hb
    go_wp2_with fail
    refine (ab.out _).mono ?_
    rintro e w2 ⟨rfl, rfl⟩
    go_wp2_with fail
    refine (ab.out _).mono ?_
    rintro e w2 ⟨rfl, rfl⟩
    go_wp2_with fail
    refine (ab.out _).mono ?_
    rintro e w2 ⟨rfl, rfl⟩
    go_wp2_with fail
    go_ret
    exact ⟨rfl, HB1.out⟩
  · go_enter Try.func6, Try.ntmps6
    go_wp2_with fail
    refine h0.out.mono ?_
    rintro e w1 ⟨rfl, hb⟩
    have HB1 := Lib.hid hb
    clear hb
    go_wp2_with fail
    refine (ab.out _).mono ?_
    rintro e w2 ⟨rfl, rfl⟩
    go_wp2_with fail
    refine (ab.out _).mono ?_
    rintro e w2 ⟨rfl, rfl⟩
    go_wp2_with fail
    refine (ab.out _).mono ?_
    rintro e w2 ⟨rfl, rfl⟩
    go_wp2_with fail
    refine (ba.out _).mono ?_
    rintro e w2 ⟨rfl, rfl⟩
    go_wp2_with fail
    go_ret
    exact ⟨rfl, HB1.out⟩
  · go_enter Try.func6, Try.ntmps6
    go_wp2_with fail
    refine h0.out.mono ?_
    rintro e w1 ⟨rfl, hb⟩
    have HB1 := Lib.hid hb
    clear hb
    go_wp2_with fail
    refine (ab.out _).mono ?_
    rintro e w2 ⟨rfl, rfl⟩
    go_wp2_with fail
    refine (ab.out _).mono ?_
    rintro e w2 ⟨rfl, rfl⟩
    go_wp2_with fail
    refine (ab.out _).mono ?_
    rintro e w2 ⟨rfl, rfl⟩
    go_wp2_with fail
    go_ret
    exact ⟨rfl, HB1.out⟩

end Go.Proofs.Ythlbeehlcgnggaa
