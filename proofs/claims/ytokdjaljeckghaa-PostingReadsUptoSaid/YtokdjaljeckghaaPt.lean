/-
  A nil cursor, and its statement.
-/
import Derived.Test.YtokdjaljeckghaaPs
namespace Go.Proofs.Ytokdjaljeckghaa
open Go.RowKit
set_option maxRecDepth 100000 in
set_option maxHeartbeats 2000000 in
theorem stands_nil (w : World) : Calls Try.prog 38 #[.pointer none] w fun e w' => e = .returned (.bool false) ∧ Below w.heap.size w w' := by
  go_enter Try.func38, Try.ntmps38
  go_wp2_with fail
  go_quiet (fail)
  go_wp2_with fail
  go_ret
  exact ⟨rfl, belowN (Below.refl _ _) _⟩
set_option maxRecDepth 100000 in
set_option maxHeartbeats 2000000 in
theorem next_nil (w : World) : Calls Try.prog 21 #[.pointer none] w fun e w' => e = .returned (.bool false) ∧ w' = w := by
  go_enter Try.func21, Try.ntmps21
  go_wp2_with fail
  go_ret
  exact ⟨rfl, rfl⟩
set_option maxRecDepth 100000 in
set_option maxHeartbeats 2000000 in
theorem advance_nil (w : World) (x : Int) : Calls Try.prog 22 #[.pointer none, .int .i64 x] w fun e w' => e = .returned (.bool false) ∧ w' = w := by
  go_enter Try.func22, Try.ntmps22
  go_wp2_with fail
  go_ret
  exact ⟨rfl, rfl⟩
theorem results_ct {P : Program} {fn : Func} {a u : Tmp} {t : TypeId} (h : fn.results = #[.cell a t, .tmp u]) (tmps : Array Value) (w : World) (p : Addr) (v : Value) (ha : tmps.getD a undef = .pointer (some p)) (hl : (loadVar t p).run P w = .ok v w) :
    (results fn tmps).run P w = .ok (.tuple #[v, tmps.getD u undef]) w := by
  have h2 : (asAddr (tmps.getD a undef)).run P w = .ok p w := by rw [ha]; rfl
  unfold results
  rw [h]
  simp only [Sem.run_bind, List.mapM_toArray, List.mapM_cons, List.mapM_nil, h2, Result.andThen_ok, hl, Sem.run_pure, Sem.run_map]
  simp
theorem aggP : ∀ w, (isAgg 40).run Try.prog w = .ok true w := Try.isAgg40
theorem sizeP : ∀ w, (Go.sizeOf 40).run Try.prog w = .ok 2 w := Try.sizeOf40
theorem loadP (w : World) (b : Nat) (c0 c1 : Value) (h : w.heap[b]? = some (.cells #[c0, c1] 40 (0, 0))) : (loadVar 40 ⟨b, 0, none⟩).run Try.prog w = .ok (.agg #[c0, c1]) w := by
  unfold loadVar
  rw [Sem.run_bind, aggP]
  simp only [Result.andThen_ok, if_true, Sem.run_bind, sizeP]
  have h := run_loadCells_list (P := Try.prog) w ⟨b, 0, none⟩ [c0, c1] (fun j v hj => by
    match j, hj with
    | 0, hj => simp at hj; subst hj; simp [Addr.add, World.cell?, h]
    | 1, hj => simp at hj; subst hj; simp [Addr.add, World.cell?, h])
  rw [show [c0, c1].length = 2 from rfl] at h
  rw [h]
  rfl
set_option maxRecDepth 100000 in
set_option maxHeartbeats 2000000 in
theorem post_nil (w : World) : Calls Try.prog 20 #[.pointer none] w fun e w' => e = .returned (.tuple #[.agg #[.int .i64 0, .slice none 0 0], .bool false]) ∧ Below w.heap.size w w' := by
  have hs := Lib.hid (fun w => stands_nil w)
  have hb : Hid (Below w.heap.size w (w.alloc (.cells #[.int .i64 0, .slice none 0 0] 40))) := (Below.refl _ _).alloc (Nat.le_refl _) _
  have hx : Hid ((w.alloc (.cells #[.int .i64 0, .slice none 0 0] 40)).heap[w.heap.size]? = some (.cells #[.int .i64 0, .slice none 0 0] 40 (0, 0))) := Go.Deep.blk_alloc_new _ _
  go_enter Try.func20, Try.ntmps20
  go_wp2_with (go_at_call 38; refine (hs.out _).mono ?_; rintro e1 w2 ⟨rfl, hb2⟩; have HB := Lib.hid (hb.out.trans (hb2.mono hb.out.size)); have HX : Hid (w2.heap[w.heap.size]? = some (.cells #[.int .i64 0, .slice none 0 0] 40 (0, 0))) := (hb2.block _ (blk_lt hx.out)).trans hx.out; have y1 : w2.cell? ⟨w.heap.size, 0, none⟩ = some (.int .i64 0) := (by simp [World.cell?, HX.out]); have y2 : w2.cell? ⟨w.heap.size, 1, none⟩ = some (.slice none 0 0) := (by simp [World.cell?, HX.out]); have y3 : ∀ j, w2.frozen? ⟨w.heap.size, j, none⟩ = false := (fun j => by simp [World.frozen?, HX.out]); have z2 : (w2.setCell ⟨w.heap.size, 0, none⟩ (.int .i64 0)).cell? ⟨w.heap.size, 1, none⟩ = some (.slice none 0 0) := (by simp [World.cell?, heap_set w2 w.heap.size 0 (.int .i64 0) _ _ _ HX.out]); have z3 : ∀ j, (w2.setCell ⟨w.heap.size, 0, none⟩ (.int .i64 0)).frozen? ⟨w.heap.size, j, none⟩ = false := (fun j => by simp [World.frozen?, heap_set w2 w.heap.size 0 (.int .i64 0) _ _ _ HX.out]); clear hb2)
  have hq : Hid (((w2.setCell ⟨w.heap.size, 0, none⟩ (.int .i64 0)).setCell ⟨w.heap.size, 1, none⟩ (.slice none 0 0)).heap[w.heap.size]? = some (.cells #[.int .i64 0, .slice none 0 0] 40 (0, 0))) := heap_set _ _ _ _ _ _ _ (heap_set _ _ _ _ _ _ _ HX.out)
  refine bodyPost_ret (results_ct rfl _ _ ⟨w.heap.size, 0, none⟩ (.agg #[.int .i64 0, .slice none 0 0]) rfl (loadP _ _ _ _ hq.out)) rfl ?_
  exact ⟨rfl, (HB.out.setCell (p := ⟨w.heap.size, 0, none⟩) (Nat.le_refl _) _).setCell (p := ⟨w.heap.size, 1, none⟩) (Nat.le_refl _) _⟩
set_option maxRecDepth 100000 in
set_option maxHeartbeats 2000000 in
theorem nil14_walk (x : Int) (w : World) : Calls Try.prog 8 #[.int .i64 x] w fun e w' => e = .returned (.bool true) ∧ Below w.heap.size w w' := by
  have h1 := Lib.hid (fun w => awake14_any w)
  have h2 := Lib.hid (fun w => post_nil w)
  have h3 := Lib.hid (fun w => next_nil w)
  have h4 := Lib.hid (fun w => advance_nil w x)
  go_enter Try.func8, Try.ntmps8
  go_wp2_with (first
    | (go_at_call 20; refine (h2.out _).mono ?_; rintro e1 w1 ⟨rfl, hb1⟩; have HB1 := Lib.hid hb1; clear hb1)
    | (go_at_call 13; refine (h1.out _).mono ?_; rintro e1 w2 ⟨rfl, hb2⟩; have HB2 := Lib.hid hb2; have y1 : w2.cell? ⟨w1.heap.size, 0, none⟩ = some (.int .i64 0) := (hb2.cell (p := ⟨w1.heap.size, 0, none⟩) (by simp)).trans (cell_new0 w1 _ _ _).1; have y2 : w2.cell? ⟨w1.heap.size, 1, none⟩ = some (.slice none 0 0) := (hb2.cell (p := ⟨w1.heap.size, 1, none⟩) (by simp)).trans (cell_new0 w1 _ _ _).2; clear hb2)
    | (go_at_call 21; refine (h3.out _).mono ?_; rintro e1 w3 ⟨rfl, rfl⟩)
    | (go_at_call 22; refine (h4.out _).mono ?_; rintro e1 w4 ⟨rfl, rfl⟩))
  go_ret
  exact ⟨rfl, (HB1.out.alloc HB1.out.size _).trans (HB2.out.mono (Nat.le_trans HB1.out.size (by simp)))⟩
end Go.Proofs.Ytokdjaljeckghaa
