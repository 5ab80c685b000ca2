/-
  What is asked of the program's own calls on packed numbers, and the fixed answers that each statement asks first.
-/
import Derived.Test.YtjeicjnlhepaiaaBpRead
import Derived.Test.YtjeicjnlhepaiaaBpPack
namespace Go.Proofs.Ytjeicjnlhepaiaa
open Go.RowKit

/-- Numbers that a word holds. -/
def Wf (zs : List Int) : Prop := ∀ z ∈ zs, -9223372036854775808 ≤ z ∧ z ≤ 9223372036854775807
/-- Pack answers the document's bytes. -/
def PackC : Prop := ∀ (w : World) (v : Value) (zs : List Int), IntS w v zs → zs.length ≤ 1073741824 → Wf zs →
  Calls Try.prog 8 #[v] w fun e' w' => e' = .returned (.tuple #[.string ⟨(packZ zs).1.toArray⟩, .int .i64 (packZ zs).2]) ∧ Below w.heap.size w w'
/-- Read answers the document's numbers, in new memory. -/
def ReadC : Prop := ∀ (w : World) (s : ByteArray), s.size ≤ 1073741824 →
  Calls Try.prog 12 #[.string s] w (ReadPost w.heap.size w (Bp.rdPack s.data.toList).1 (Bp.rdPack s.data.toList).2.1 (Bp.rdPack s.data.toList).2.2)

theorem packR_c (w : World) (v : Value) (zs : List Int) (h : IntS w v zs) (hl : zs.length ≤ 1073741824) (hw : Wf zs) :
    Calls Try.prog 9 #[v] w fun e' w' => e' = .returned (.tuple #[.string ⟨(packZ zs).1.toArray⟩, .int .i64 (packZ zs).2]) ∧ Below w.heap.size w w' := by
  obtain ⟨a, cap, rfl, h2, h3, h4⟩ := h
  by_cases h0 : zs.length = 0
  · obtain rfl : zs = [] := List.length_eq_zero_iff.1 h0
    exact packR_none w a cap
  · obtain ⟨g, o, rfl, h5, h6⟩ := h4 (by omega)
    exact packR_any w g o zs.length cap zs rfl hl h2 h3 h5 h6 hw _ _ rfl
theorem readR_c (w : World) (s : ByteArray) (hs : s.size ≤ 1073741824) :
    Calls Try.prog 13 #[.string s] w (ReadPost w.heap.size w (Bp.rdPack s.data.toList).1 (Bp.rdPack s.data.toList).2.1 (Bp.rdPack s.data.toList).2.2) :=
  readR_any s hs w _ _ _ rfl

/-- A slice that a call has just laid. -/
theorem ints_lit (w : World) (zs : List Int) (h0 : zs.length ≤ 9223372036854775807) : IntS (w.alloc (.cells (intsV zs).toArray 3)) (.slice (some ⟨w.heap.size, 0, none⟩) zs.length zs.length) zs := by
  refine ⟨_, zs.length, rfl, Nat.le_refl _, h0, fun _ => ⟨w.heap.size, 0, rfl, by simp, fun j hj => ?_⟩⟩
  rw [Nat.zero_add, World.cell?_alloc_at _ _ _ _ rfl]
  simp [intsV, hj]
theorem awake_pack : packZ [1, 2, 3, 0] = ([132, 2, 57], 0) := by decide +kernel
theorem awake_read : Bp.rdPack [130, 3, 53] = ([5, 6], 3, 0) := by decide +kernel

set_option maxRecDepth 100000 in
set_option maxHeartbeats 1000000 in
theorem awake3_any (hP : PackC) (hR : ReadC) (w : World) : Calls Try.prog 10 #[] w fun e' w' => e' = .returned (.bool true) ∧ Below w.heap.size w w' := by
  have h1 : Hid (Calls Try.prog 8 #[.slice (some ⟨w.heap.size, 0, none⟩) 4 4] (w.alloc (.cells #[.int .i64 1, .int .i64 2, .int .i64 3, .int .i64 0] 3)) fun e' w' => e' = .returned (.tuple #[.string ⟨#[132, 2, 57]⟩, .int .i64 0]) ∧ Below w.heap.size w w') := by
    have h := hP _ _ [1, 2, 3, 0] (ints_lit w [1, 2, 3, 0] (by simp)) (by simp) (by intro z hz; simp at hz; omega)
    rw [awake_pack] at h
    exact h.mono fun e' w' ⟨h1, h2⟩ => ⟨h1, ((Below.refl _ _).alloc (Nat.le_refl _) _).trans (h2.mono (by simp))⟩
  have h2 : Hid (∀ w', Calls Try.prog 12 #[.string ⟨#[130, 3, 53]⟩] w' (ReadPost w'.heap.size w' [5, 6] 3 0)) := fun w' => by
    have h := hR w' ⟨#[130, 3, 53]⟩ (by decide)
    rw [show (⟨#[130, 3, 53]⟩ : ByteArray).data.toList = [130, 3, 53] from rfl, awake_read] at h
    exact h
  have h3 : Hid (∀ (w' : World) v, OwnI w' w'.heap.size v [] ∨ True → IntS w' v [5, 6] → Calls Try.prog 11 #[v, .slice (some ⟨w'.heap.size, 0, none⟩) 2 2] (w'.alloc (.cells #[.int .i64 5, .int .i64 6] 3)) fun e' w'' => e' = .returned (.bool true) ∧ Below w'.heap.size w' w'') := fun w' v _ hv => by
    have hb : Below w'.heap.size w' (w'.alloc (.cells #[.int .i64 5, .int .i64 6] 3)) := (Below.refl _ _).alloc (Nat.le_refl _) _
    have h := numbers_any _ _ _ [5, 6] [5, 6] (hv.below hb (Nat.le_refl _)) (ints_lit w' [5, 6] (by simp)) (by simp) (by simp)
    rw [show decide (([5, 6] : List Int) = [5, 6]) = true from by decide] at h
    exact h.mono fun e' w'' ⟨h1, h2⟩ => ⟨h1, hb.trans (h2.mono (by simp))⟩
  go_enter Try.func10, Try.ntmps10
  go_wp2_with (first
    | (go_at_call 8; refine h1.out.mono ?_; rintro e1 w1 ⟨rfl, hb⟩; have HB := Lib.hid hb; clear hb)
    | (go_at_call 12; refine (h2.out _).mono ?_; rintro e1 w2 ⟨v2, rfl, hown, hb⟩; have HB2 : Hid (Below w.heap.size w w2) := HB.out.trans (hb.mono HB.out.size); have HV : Hid (IntS w2 v2 [5, 6]) := hown.ints (by simp); clear hb hown)
    | (go_at_call 11; refine (h3.out _ _ (.inr trivial) HV.out).mono ?_; rintro e1 w3 ⟨rfl, hb⟩; have HB3 : Hid (Below w.heap.size w w3) := HB2.out.trans (hb.mono HB2.out.size); clear hb))
  go_ret
  exact ⟨rfl, HB3.out⟩
end Go.Proofs.Ytjeicjnlhepaiaa
