/-
  A step of the two disks: the walk of 'does' (made by gen_xdc.py).
-/
import Derived.Test.YtdohenbicepicaaDb
import Derived.BigRegion
import Derived.Deep.RegionWith
import Derived.Deep.RegionHeld3
namespace Go.Proofs.Ytdohenbicepicaa
open Go.RowKit Go.Maps

def stepV (kind n : Int) (P Q : ByteArray) : Value := .agg #[.int .i64 kind, .string P, .string Q, .int .i64 n]
def stepO (kind n : Int) (P Q : ByteArray) : Obj := .cells #[.int .i64 kind, .string P, .string Q, .int .i64 n] 29
def DoesPost (w : World) (p b : Nat) (c : Nat) (F G : Nat → Prop) (e : Ending) (w' : World) : Prop := e = .returned (.bool true) ∧ ∃ D', PairPost w p b D' (c + 1) F G w'
theorem step_cells (w : World) (kind n : Int) (P Q : ByteArray) : (w.alloc (stepO kind n P Q)).cell? ⟨w.heap.size, 0, none⟩ = some (.int .i64 kind) ∧ (w.alloc (stepO kind n P Q)).cell? ⟨w.heap.size, 1, none⟩ = some (.string P) ∧ (w.alloc (stepO kind n P Q)).cell? ⟨w.heap.size, 2, none⟩ = some (.string Q) ∧ (w.alloc (stepO kind n P Q)).cell? ⟨w.heap.size, 3, none⟩ = some (.int .i64 n) := by
  unfold stepO
  refine ⟨by simp, by simp, by simp, by simp⟩
end Go.Proofs.Ytdohenbicepicaa
