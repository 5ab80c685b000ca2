/-
  The fixed answers; SpansHold.
-/
import Derived.Test.YtmpjhbbcfnffhaaYj
import Derived.Laws.StructEq
namespace Go.Proofs.Ytmpjhbbcfnffhaa
open Go.RowKit

namespace Sp
theorem rows_awake : rows 128 2047 = [[(194, 223), (128, 191)]] := by decide +kernel
theorem rows_none : rows 5 4 = [] := by decide +kernel
end Sp
set_option maxRecDepth 100000 in
set_option maxHeartbeats 1000000 in
theorem awake_any (w : World) : Calls Try.prog 8 #[] w fun e w' => e = .returned (.bool true) ∧ Below w.heap.size w w' := by
  have H1 := Lib.hid (rows_any 128 2047 w)
  have H2 := Lib.hid (fun w : World => rows_any 5 4 w)
  rw [Sp.rows_awake] at H1
  rw [Sp.rows_none] at H2
  go_enter Try.func8, Try.ntmps8
  go_wp2_with fail
  refine H1.out.mono ?_
  rintro e w1 ⟨v, gs, rfl, hO, hb1⟩
  obtain ⟨a, cap, rfl, _, _, hform⟩ := hO.form
  obtain ⟨g, rfl, _, hg, hcell⟩ := hform (by simp)
  have hl := hO.len
  obtain ⟨g0, rfl⟩ : ∃ g0, gs = [g0] := List.length_eq_one_iff.1 hl
  have c0 : w1.cell? ⟨g, 0, none⟩ = some (.slice (some ⟨g0, 0, none⟩) 2 2) := hcell 0 (by simp) (by simp)
  have hR := (hO.row 0 (by simp) (by simp)).2
  have r0 : w1.cell? ⟨g0, 0, none⟩ = some (.int .i64 194) := (hR.cells 0 (by simp)).1
  have r1 : w1.cell? ⟨g0, 1, none⟩ = some (.int .i64 223) := (hR.cells 0 (by simp)).2
  have r2 : w1.cell? ⟨g0, 2, none⟩ = some (.int .i64 128) := (hR.cells 1 (by simp)).1
  have r3 : w1.cell? ⟨g0, 3, none⟩ = some (.int .i64 191) := (hR.cells 1 (by simp)).2
  have HB1 := Lib.hid hb1
  clear hb1 hR hcell hform hO hl
  go_wp2_with fail
  refine (H2.out w1).mono ?_
  rintro e w2 ⟨v2, gs2, rfl, hO2, hb2⟩
  obtain ⟨a2, cap2, rfl, _, _, _⟩ := hO2.form
  have HB2 : Hid (Below w.heap.size w w2) := HB1.out.trans (hb2.mono HB1.out.size)
  clear hO2 hb2
  go_wp2_with fail
  go_ret
  exact ⟨rfl, HB2.out⟩
end Go.Proofs.Ytmpjhbbcfnffhaa
