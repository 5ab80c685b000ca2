/-
  The fixed answers that each statement asks first.
-/
import Derived.Test.YtmflmckmamckfaaHold
namespace Go.Proofs.Ytmflmckmamckfaa
open Go.RowKit

def digits : ByteArray := ⟨#[49, 50, 51, 52, 53, 54, 55, 56, 57]⟩
def letA : ByteArray := ⟨#[97]⟩
def sealedA : ByteArray := ⟨(sealB 1 [97]).toArray⟩
theorem crc_digits : Pl.crc digits.data.toList = 3421780262 := by decide +kernel
theorem sealedA_size : sealedA.size = 10 := by decide +kernel
theorem sealedA_head : sealedA.extract 0 6 = ⟨#[103, 108, 115, 1, 129, 97]⟩ := by decide +kernel
theorem opened_A : openB 1 sealedA.data.toList = ([97], 0) := Hd.open_seal 1 [97] (by decide)

set_option maxRecDepth 100000 in
set_option maxHeartbeats 1000000 in
theorem awake_any (w : World) : Calls Try.prog 9 #[] w fun e' w' => e' = .returned (.bool true) ∧ Below w.heap.size w w' := by
  have h1 : Hid (Calls Try.prog 7 #[.int .i64 1, .string ⟨#[97]⟩] w fun e' w' => e' = .returned (.tuple #[.string sealedA, .int .i64 0]) ∧ Below w.heap.size w w') := seal_any 1 (by omega) letA (by decide) w
  have h2 : Hid (∀ w', Calls Try.prog 12 #[.int .i64 1, .string sealedA] w' fun e' w'' => e' = .returned (.tuple #[.string ⟨#[97]⟩, .int .i64 0]) ∧ Below w'.heap.size w' w'') := fun w' => open_any 1 (by omega) sealedA (by rw [sealedA_size]; omega) w' [97] 0 opened_A
  have h3 : Hid (∀ w', Calls Try.prog 10 #[.string ⟨#[49, 50, 51, 52, 53, 54, 55, 56, 57]⟩] w' fun e' w'' => e' = .returned (.int .u32 3421780262) ∧ w' = w'') := fun w' => by
    have h := sum_any digits w' (by decide)
    rw [crc_digits] at h
    exact h
  have hs := sealedA_size
  have hh := sealedA_head
  generalize sealedA = b at *
  go_enter Try.func9, Try.ntmps9
  go_wp2_with (first
    | (go_at_call 7; refine h1.out.mono ?_; rintro e1 w1 ⟨rfl, hb⟩; have HB := Lib.hid hb; clear hb)
    | (go_at_call 12; refine (h2.out _).mono ?_; rintro e1 w2 ⟨rfl, hb⟩; have HB2 : Hid (Below w.heap.size w w2) := HB.out.trans (hb.mono HB.out.size); clear hb)
    | (go_at_call 10; refine (h3.out _).mono ?_; rintro e1 w3 ⟨rfl, rfl⟩))
  go_ret
  exact ⟨rfl, HB2.out⟩
end Go.Proofs.Ytmflmckmamckfaa
