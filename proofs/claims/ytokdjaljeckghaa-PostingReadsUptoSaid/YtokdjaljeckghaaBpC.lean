/-
  What is asked of the program's own calls on packed numbers, and the fixed answers that each statement asks first.
-/
import Derived.Test.YtokdjaljeckghaaBpRead
import Derived.Test.YtokdjaljeckghaaBpPack
namespace Go.Proofs.Ytokdjaljeckghaa
open Go.RowKit

/-- Numbers that a word holds. -/
def Wf (zs : List Int) : Prop := ∀ z ∈ zs, -9223372036854775808 ≤ z ∧ z ≤ 9223372036854775807
/-- Pack answers the document's bytes. -/
def PackC : Prop := ∀ (w : World) (v : Value) (zs : List Int), IntS w v zs → zs.length ≤ 1073741824 → Wf zs →
  Calls Try.prog 26 #[v] w fun e' w' => e' = .returned (.tuple #[.string ⟨(packZ zs).1.toArray⟩, .int .i64 (packZ zs).2]) ∧ Below w.heap.size w w'
/-- Read answers the document's numbers, in new memory. -/
def ReadC : Prop := ∀ (w : World) (s : ByteArray), s.size ≤ 1073741824 →
  Calls Try.prog 31 #[.string s] w (ReadPost w.heap.size w (Bp.rdPack s.data.toList).1 (Bp.rdPack s.data.toList).2.1 (Bp.rdPack s.data.toList).2.2)

theorem packR_c (w : World) (v : Value) (zs : List Int) (h : IntS w v zs) (hl : zs.length ≤ 1073741824) (hw : Wf zs) :
    Calls Try.prog 29 #[v] w fun e' w' => e' = .returned (.tuple #[.string ⟨(packZ zs).1.toArray⟩, .int .i64 (packZ zs).2]) ∧ Below w.heap.size w w' := by
  obtain ⟨a, cap, rfl, h2, h3, h4⟩ := h
  by_cases h0 : zs.length = 0
  · obtain rfl : zs = [] := List.length_eq_zero_iff.1 h0
    exact packR_none w a cap
  · obtain ⟨g, o, rfl, h5, h6⟩ := h4 (by omega)
    exact packR_any w g o zs.length cap zs rfl hl h2 h3 h5 h6 hw _ _ rfl
theorem readR_c (w : World) (s : ByteArray) (hs : s.size ≤ 1073741824) :
    Calls Try.prog 35 #[.string s] w (ReadPost w.heap.size w (Bp.rdPack s.data.toList).1 (Bp.rdPack s.data.toList).2.1 (Bp.rdPack s.data.toList).2.2) :=
  readR_any s hs w _ _ _ rfl

/-- A slice that a call has just laid. -/
theorem ints_lit (w : World) (zs : List Int) (h0 : zs.length ≤ 9223372036854775807) : IntS (w.alloc (.cells (intsV zs).toArray 3)) (.slice (some ⟨w.heap.size, 0, none⟩) zs.length zs.length) zs := by
  refine ⟨_, zs.length, rfl, Nat.le_refl _, h0, fun _ => ⟨w.heap.size, 0, rfl, by simp, fun j hj => ?_⟩⟩
  rw [Nat.zero_add, World.cell?_alloc_at _ _ _ _ rfl]
  simp [intsV, hj]
theorem awake_pack : packZ [1, 2, 3, 0] = ([132, 2, 57], 0) := by decide +kernel
theorem awake_read : Bp.rdPack [130, 3, 53] = ([5, 6], 3, 0) := by decide +kernel

end Go.Proofs.Ytokdjaljeckghaa
