/-
  The fixed answer that each statement asks first.
-/
import Derived.Test.YthlbeehlcgnggaaRx
namespace Go.Proofs.Ythlbeehlcgnggaa
open Go.RowKit

theorem Rf.awake_num : Rf.parse [49, 46, 53] = some 4609434218613702656 := by decide +kernel
theorem Rf.awake_less : Rf.less 13830554455654793216 4609434218613702656 = true := by decide +kernel
theorem Rf.awake_in : Rf.within 9223372036854775808 0 0 = true := by decide +kernel

set_option maxRecDepth 100000 in
set_option maxHeartbeats 1000000 in
theorem awake_any (w : World) : Calls Try.prog 8 #[] w fun e w' => e = .returned (.bool true) ∧ Below w.heap.size w w' := by
  have h1 : ∀ w, Calls Try.prog 16 #[.string ⟨#[49, 46, 53]⟩] w fun e w' => e = .returned (.tuple #[.int .u64 4609434218613702656, .int .i64 0]) ∧ Below w.heap.size w w' := fun w => by
    have h := parse_any ⟨#[49, 46, 53]⟩ (by decide) w
    rw [show (⟨#[49, 46, 53]⟩ : ByteArray).data.toList = [49, 46, 53] from rfl, Rf.awake_num] at h
    exact h
  have h2 : ∀ w, Calls Try.prog 9 #[.int .u64 13830554455654793216, .int .u64 4609434218613702656] w fun e w' => e = .returned (.bool true) ∧ w' = w := fun w => by
    have h := less_any 13830554455654793216 4609434218613702656 w
    rw [Rf.awake_less] at h
    exact h
  have h3 : ∀ w, Calls Try.prog 11 #[.int .u64 9223372036854775808, .int .u64 0, .int .u64 0] w fun e w' => e = .returned (.bool true) ∧ w' = w := fun w => by
    have h := within_any 9223372036854775808 0 0 w
    rw [Rf.awake_in] at h
    exact h
  go_enter Try.func8, Try.ntmps8
  go_wp2_with fail
  go_at_call 16
  refine (h1 _).mono ?_
  rintro e w1 ⟨rfl, hb⟩
  have HB := Lib.hid hb
  clear hb h1
  go_wp2_with fail
  go_at_call 9
  refine (h2 _).mono ?_
  rintro e w2 ⟨rfl, rfl⟩
  clear h2
  go_wp2_with fail
  go_at_call 11
  refine (h3 _).mono ?_
  rintro e w3 ⟨rfl, rfl⟩
  clear h3
  go_wp2_with fail
  go_ret
  exact ⟨rfl, HB.out⟩

end Go.Proofs.Ythlbeehlcgnggaa
