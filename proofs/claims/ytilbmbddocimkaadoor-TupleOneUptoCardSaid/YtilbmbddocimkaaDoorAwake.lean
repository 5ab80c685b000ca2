/-
  The fixed answers that each statement asks first.
-/
import Derived.Test.YtilbmbddocimkaaDoorCur
import Derived.Test.YtilbmbddocimkaaDoorWr
namespace Go.Proofs.YtilbmbddocimkaaDoor
open Go.RowKit

def s0 : ByteArray := ⟨#[130, 97, 0, 1, 5]⟩
def s1 : ByteArray := ⟨#[97, 0, 1, 5]⟩
def s2 : ByteArray := ⟨#[5]⟩
theorem rest_s0 : rest s0 1 = s1 := by decide +kernel
theorem rest_s1 : rest s1 3 = s2 := by decide +kernel
theorem rest_s2 : rest s2 0 = s2 := by decide +kernel
theorem rd_s0 : Pl.rdCount s0.data.toList = (2, 1, 0) := by decide +kernel
theorem rd_s1 : Pl.rdText s1.data.toList [] 0 = ([97], 3, 0) := by decide +kernel
theorem rd_s2 : Pl.rdNum s2.data.toList = (0, 0, 3) := by decide +kernel
theorem wr_fix : Pl.numsB [368, -113] = [241, 1, 0, 15, 255] := by decide +kernel

theorem nums_fix (w : World) : Calls Tryd.prog 9 #[.slice (some ⟨w.heap.size, 0, none⟩) 2 2] (w.alloc (.cells #[.int .i64 368, .int .i64 (-113)] 3))
    fun e' w' => e' = .returned (.string ⟨(Pl.numsB [368, -113]).toArray⟩) ∧ Below (w.alloc (.cells #[.int .i64 368, .int .i64 (-113)] 3)).heap.size (w.alloc (.cells #[.int .i64 368, .int .i64 (-113)] 3)) w' := by
  refine nums_any (w.alloc (.cells #[.int .i64 368, .int .i64 (-113)] 3)) [368, -113] 2 2 w.heap.size 0 (by omega) rfl (by simp) ?_ ?_
  · intro j hj
    match j, hj with
    | 0, _ => rw [World.cell?_alloc_at _ _ _ _ rfl]; rfl
    | 1, _ => rw [World.cell?_alloc_at _ _ _ _ rfl]; rfl
  · intro n hn
    simp at hn
    omega

set_option maxRecDepth 100000 in
set_option maxHeartbeats 1000000 in
theorem awake_any (w : World) : Calls Tryd.prog 8 #[] w fun e' w' => e' = .returned (.bool true) ∧ Below w.heap.size w w' := by
  go_enter Tryd.func8, Tryd.ntmps8
  go_wp2_with fail
  refine (at_any s0 w).mono ?_
  rintro e w1 ⟨rfl, rfl⟩
  have hc0 := Lib.hid (at_cur s0 w 52)
  have hb0 : Hid (Below w.heap.size w (w.alloc (.cells #[.string s0] 52))) := (Below.refl _ _).alloc (Nat.le_refl _) _
  go_wp2_with fail
  refine (count_any s0 w.heap.size _ hc0.out (by decide) 2 1 0 rd_s0).mono ?_
  rintro e w2 ⟨rfl, hb1, hc1⟩
  have HB1 : Hid (Below w.heap.size w w2) := hb0.out.trans hb1
  rw [rest_s0] at hc1
  have HC1 := Lib.hid hc1
  clear hc0 hb0 hb1 hc1
  go_wp2_with fail
  refine (text_any s1 w.heap.size w2 HC1.out (by decide) [97] 3 0 rd_s1).mono ?_
  rintro e w3 ⟨rfl, hb1, hc1⟩
  have HB2 : Hid (Below w.heap.size w w3) := HB1.out.trans hb1
  rw [rest_s1] at hc1
  have HC2 := Lib.hid hc1
  clear hb1 hc1 HB1 HC1
  go_wp2_with fail
  refine (num_any s2 w.heap.size w3 HC2.out (by decide) 0 0 3 rd_s2).mono ?_
  rintro e w4 ⟨rfl, hb1, hc1⟩
  have HB3 : Hid (Below w.heap.size w w4) := HB2.out.trans hb1
  rw [rest_s2] at hc1
  have HC3 := Lib.hid hc1
  clear hb1 hc1 HB2 HC2
  go_wp2_with fail
  have hN := nums_fix w4
  rw [wr_fix] at hN
  refine hN.mono ?_
  rintro e w5 ⟨rfl, hb4⟩
  have hb5 : Hid (Below w4.heap.size w4 w5) := (((Below.refl w4.heap.size w4).alloc (Nat.le_refl _) (.cells #[.int .i64 368, .int .i64 (-113)] 3)).trans (hb4.mono (by simp)))
  have HC5 := Lib.hid (HC3.out.below hb5.out HC3.out.lt)
  have HB5 : Hid (Below w.heap.size w w5) := HB3.out.trans (hb5.out.mono HB3.out.size)
  clear hb4 hb5 HC3 HB3 hN
  go_wp2_with fail
  refine (rest_any s2 w.heap.size w5 HC5.out).mono ?_
  rintro e w6 ⟨rfl, rfl⟩
  have hs2 : s2.toList = [5] := by rw [ByteArray.toList_eq]; rfl
  go_wp2_with fail
  refine (end_some s2 w.heap.size w5 HC5.out (by decide)).mono ?_
  rintro e w6 ⟨rfl, rfl⟩
  go_wp2_with fail
  go_ret
  exact ⟨rfl, HB5.out⟩
end Go.Proofs.YtilbmbddocimkaaDoor
