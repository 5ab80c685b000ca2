/-
  The first and the last of a list by the given package.
-/
import Derived.Test.YthlbeehlcgnggaaRu
namespace Go.Proofs.Ythlbeehlcgnggaa
open Go.RowKit

set_option maxRecDepth 100000 in
set_option maxHeartbeats 4000000 in
theorem refEnds_any (w : World) (v : Value) (l : List Nat) (hv : WordS w v l) (hwf : WordsU l) : Calls Try.prog 15 #[v] w fun e w' => e = .returned (.tuple (ansE l)) ∧ ∃ n, w' = w.drewN n := by
  obtain ⟨a, cap, rfl, hc1, hc2, hc⟩ := hv
  by_cases h0 : l.length = 0
  · have hr : ansE l = #[.int .u64 0, .int .u64 0, .bool false] := by unfold ansE; rw [if_pos h0]
    rw [hr]
    rw [h0]
    clear hc hr
    go_enter Try.func15, Try.ntmps15
    go_wp2_with fail
    go_ret3
    exact ⟨rfl, 0, rfl⟩
  obtain ⟨n, hn⟩ : ∃ n, n = l.length := ⟨_, rfl⟩
  have hr : ansE l = #[.int .u64 (Rf.lo l n : Nat), .int .u64 (Rf.hi l n : Nat), .bool true] := by unfold ansE; rw [if_neg h0, hn]
  obtain ⟨g, o, rfl, hg, hcl⟩ := hc (by omega)
  rw [hr]
  rw [← hn]
  have i0 : ((n : Int) == 0) = false := beq_eq_false_iff_ne.2 (by omega)
  have i1 : (0 : Int) < (n : Int) := by omega
  have c0 : w.cell? ⟨g, o, none⟩ = some (.int .u64 (Rf.lo l 0 : Nat)) := by
    have := hcl 0 (by omega)
    rw [Nat.add_zero] at this
    rw [this, word_at]
    rfl
  have hl0 : Rf.hi l 0 = Rf.lo l 0 := rfl
  have HL0 := Lib.hid hl0
  have HC : Hid (∀ j (_ : j < n), w.cell? ⟨g, o + j, none⟩ = some (.int .u64 (l.getD j 0 : Nat))) := fun j hj => by
    rw [hcl j (by omega), word_at]
  have hn2 : n ≤ 9223372036854775807 := by omega
  clear hcl hr h0 hn hl0 hc hc1
  go_enter Try.func15, Try.ntmps15
  go_wp2_with fail
  go_quiet (fail)
  go_wp2_with fail
  have HC1 : Hid (∀ j (_ : j < n), (w.drewN nq).cell? ⟨g, o + j, none⟩ = some (.int .u64 (l.getD j 0 : Nat))) := HC.out
  have HW : Hid (∃ n, w.drewN nq = w.drewN n) := ⟨nq, rfl⟩
  generalize w.drewN nq = w1 at *
  clear HC c0
  go_loopg [5, 6, 7] n (fun gg va vb vi wx => ∃ k : Nat, k ≤ n ∧ gg = n - k ∧ va = .int .u64 (Rf.lo l k : Nat) ∧ vb = .int .u64 (Rf.hi l k : Nat) ∧ vi = .int .i64 k ∧ wx = w1)
  case atStart => exact ⟨0, Nat.zero_le _, rfl, rfl, by rw [HL0.out], rfl, rfl⟩
  case round =>
    obtain ⟨k, hk, rfl, rfl, rfl, rfl, rfl⟩ := hrel
    by_cases hkn : k < n
    · have j1 : (k : Int) < (n : Int) := by omega
      have c1 := HC1.out k hkn
      have H1 := Lib.hid (fun W => refLess_any (l.getD k 0) (Rf.lo l k) (getD_lt hwf k) (lo_lt hwf k) W)
      have H2 := Lib.hid (fun W => refLess_any (Rf.hi l k) (l.getD k 0) (hi_lt hwf k) (getD_lt hwf k) W)
      have S1 : Hid (Rf.lo l (k + 1) = if Rf.less (l.getD k 0) (Rf.lo l k) = true then l.getD k 0 else Rf.lo l k) := rfl
      have S2 : Hid (Rf.hi l (k + 1) = if Rf.less (Rf.hi l k) (l.getD k 0) = true then l.getD k 0 else Rf.hi l k) := rfl
      generalize Rf.less (l.getD k 0) (Rf.lo l k) = b1 at *
      generalize Rf.less (Rf.hi l k) (l.getD k 0) = b2 at *
      generalize Rf.lo l k = p at *
      generalize Rf.hi l k = q at *
      generalize l.getD k 0 = x at *
      cases b1 <;> cases b2
      all_goals
        have S3 : Hid (Rf.lo l (k + 1) = _) := S1.out
        have S4 : Hid (Rf.hi l (k + 1) = _) := S2.out
        clear S1 S2
        go_wp2_with fail
        refine (H1.out _).mono ?_
        rintro e w2 ⟨rfl, rfl⟩
        go_wp2_with fail
        refine (H2.out _).mono ?_
        rintro e w2 ⟨rfl, rfl⟩
        go_wp2_with fail
        go_roundg (n - (k + 1))
        case rel => exact ⟨k + 1, by omega, rfl, by rw [S3.out]; rfl, by rw [S4.out]; rfl, by go_num, rfl⟩
        case measure => omega
    · obtain rfl : k = n := by omega
      clear HC1
      go_wp2_with fail
      go_ret3
      exact ⟨rfl, HW.out⟩

end Go.Proofs.Ythlbeehlcgnggaa
