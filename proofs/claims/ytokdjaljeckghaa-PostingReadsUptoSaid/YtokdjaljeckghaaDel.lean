/-
  What Deltas and Sums answer: new slices of the differences and the sums, as the machine reckons them.
-/
import Derived.Test.YtokdjaljeckghaaBpRdA
namespace Go.Proofs.Ytokdjaljeckghaa
open Go.RowKit

/-- Each number less the one ahead of it. -/
def dl (a : Int) : List Int → List Int
  | [] => []
  | x :: t => wrap64 (x - a) :: dl x t
/-- Each number and all ahead of it together. -/
def sm (a : Int) : List Int → List Int
  | [] => []
  | x :: t => wrap64 (a + x) :: sm (wrap64 (a + x)) t
theorem dl_length (zs : List Int) : ∀ a, (dl a zs).length = zs.length := by
  induction zs with
  | nil => intro a; rfl
  | cons x t ih => intro a; simp only [dl, List.length_cons, ih]
theorem sm_length (zs : List Int) : ∀ a, (sm a zs).length = zs.length := by
  induction zs with
  | nil => intro a; rfl
  | cons x t ih => intro a; simp only [sm, List.length_cons, ih]
theorem wrap_back (a x : Int) (hx : -9223372036854775808 ≤ x ∧ x ≤ 9223372036854775807) : wrap64 (a + wrap64 (x - a)) = x := by
  unfold wrap64
  omega
/-- Sums of Deltas are the list. -/
theorem sm_dl (zs : List Int) : ∀ a, Wf zs → sm a (dl a zs) = zs := by
  induction zs with
  | nil => intro a _; rfl
  | cons x t ih =>
    intro a h
    simp only [dl, sm]
    rw [wrap_back a x (h x (List.mem_cons_self ..)), ih x (fun z hz => h z (List.mem_cons_of_mem _ hz))]
theorem dl_get (zs : List Int) : ∀ (a : Int) (j : Nat) (h : j < zs.length) (h2 : j < (dl a zs).length), (dl a zs)[j] = wrap64 (zs[j] - (a :: zs)[j]'(by simp; omega)) := by
  induction zs with
  | nil => intro a j h; cases h
  | cons x t ih =>
    intro a j h h2
    cases j with
    | zero => simp [dl]
    | succ j =>
      simp only [List.length_cons, Nat.add_lt_add_iff_right] at h
      simp only [dl, List.getElem_cons_succ]
      exact ih x j h (by rw [dl_length]; exact h)
theorem sm_get (ds : List Int) : ∀ (a : Int) (j : Nat) (h : j < ds.length) (h2 : j < (sm a ds).length), (sm a ds)[j] = wrap64 ((a :: sm a ds)[j]'(by rw [List.length_cons]; omega) + ds[j]) := by
  induction ds with
  | nil => intro a j h; cases h
  | cons x t ih =>
    intro a j h h2
    cases j with
    | zero => simp [sm]
    | succ j =>
      simp only [List.length_cons, Nat.add_lt_add_iff_right] at h
      simp only [sm, List.getElem_cons_succ]
      exact ih (wrap64 (a + x)) j h (by rw [sm_length]; exact h)

theorem getD_at (l : List Int) (j : Nat) (h : j < l.length) : l.getD j 0 = l[j] := by simp [List.getD, h]
/-- A row of numbers in new memory. -/
def RowI (w : World) (g n : Nat) (f : Nat → Int) : Prop := w.rowIs g 3 n (fun j => .int .i64 (f j))
theorem RowI.set {w : World} {g n : Nat} {f : Nat → Int} (h : RowI w g n f) (p : Nat) (x : Int) : RowI (w.setCell ⟨g, p, none⟩ (.int .i64 x)) g n (fun j => if j = p then x else f j) :=
  (World.rowIs.set h p _).congr fun j _ => by by_cases e : j = p <;> simp [e]
theorem RowI.ints {w : World} {g n : Nat} {l : List Int} (h : RowI w g n (fun j => l.getD j 0)) (hl : l.length = n) (hn : n ≤ 1099511627776) : IntS w (.slice (some ⟨g, 0, none⟩) n n) l := by
  refine ⟨_, n, by rw [hl], by omega, by omega, fun _ => ⟨g, 0, rfl, World.rowIs.lt h, fun j hj => ?_⟩⟩
  rw [Nat.zero_add, World.rowIs.cell h (by omega)]
  exact congrArg (fun x => some (Value.int .i64 x)) (getD_at l j hj)
/-- The first k of them are there. -/
def upTo (l : List Int) (k : Nat) : Nat → Int := fun j => if j < k then l.getD j 0 else 0
theorem upTo_step (l : List Int) (k : Nat) (x : Int) (h : l.getD k 0 = x) (j : Nat) : (if j = k then x else upTo l k j) = upTo l (k + 1) j := by
  unfold upTo
  by_cases e : j = k
  · rw [if_pos e, if_pos (by omega), e, h]
  · rw [if_neg e]
    by_cases e2 : j < k
    · rw [if_pos e2, if_pos (by omega)]
    · rw [if_neg e2, if_neg (by omega)]
/-- A new slice of these numbers. -/
def NewI (w : World) (l : List Int) (e : Ending) (w' : World) : Prop :=
  e = .returned (.slice (some ⟨w.heap.size, 0, none⟩) l.length l.length) ∧ RowI w' w.heap.size l.length (fun j => l.getD j 0) ∧ Below w.heap.size w w'

set_option maxRecDepth 100000 in
set_option maxHeartbeats 2000000 in
theorem deltas_any (w : World) (v : Value) (zs : List Int) (hv : IntS w v zs) (hn : zs.length ≤ 1073741824) :
    Calls Try.prog 40 #[v] w (NewI w (dl 0 zs)) := by
  obtain ⟨a, cap, rfl, _, _, hv⟩ := hv
  unfold NewI
  rw [dl_length]
  have hmk := run_make_row' (P := Try.prog) 38 3 (.int .i64 0) 8 Try.underlying38 Try.infoI rfl .i64 .i64 zs.length (by omega) (by omega)
  have hst : Hid (RowI (w.alloc (.cells (madeCells #[.int .i64 0] zs.length) 3)) w.heap.size zs.length (upTo (dl 0 zs) 0)) := (World.rowIs_made w (.int .i64 0) zs.length 3).congr fun j _ => by simp [upTo]
  have hal : Hid (Below w.heap.size w (w.alloc (.cells (madeCells #[.int .i64 0] zs.length) 3))) := (Below.refl _ _).alloc (Nat.le_refl _) _
  have HV := Lib.hid hv
  obtain ⟨n, hnz⟩ : ∃ n, n = zs.length := ⟨_, rfl⟩
  have HN := Lib.hid hnz
  rw [← hnz] at hn hmk hst hal ⊢
  clear hv hnz
  go_enter Try.func40, Try.ntmps40
  go_wp2_with fail
  go_loopg [4, 12] n (fun g x i wx => ∃ k : Nat, k ≤ n ∧ g = n - k ∧ i = .int .i64 (k : Int) ∧ x = .int .i64 ((0 :: zs).getD k 0) ∧ RowI wx w.heap.size n (upTo (dl 0 zs) k) ∧ Below w.heap.size w wx)
  case atStart => exact ⟨0, Nat.zero_le _, rfl, rfl, rfl, hst.out, hal.out⟩
  case round =>
    clear hst hal hmk
    obtain ⟨k, hk, rfl, rfl, rfl, hrow, hbel⟩ := hrel
    by_cases hkn : k < n
    · have i1 : (k : Int) < (n : Int) := by omega
      have kx : k < zs.length := by rw [← HN.out]; exact hkn
      obtain ⟨g, o, rfl, hg, hcu⟩ := HV.out (by omega)
      have c1 : wr.cell? ⟨g, o + k, none⟩ = some (.int .i64 zs[k]) := (hbel.cell (p := ⟨g, o + k, none⟩) hg).trans (hcu k kx)
      have c2 := World.rowIs.cell hrow hkn
      have f2 := World.rowIs.frozen hrow k
      have hd : (dl 0 zs).getD k 0 = wrap64 (zs[k] - (0 :: zs).getD k 0) := by
        rw [getD_at _ k (by rw [dl_length]; exact kx), dl_get zs 0 k kx, getD_at (0 :: zs) k (by rw [List.length_cons]; omega)]
      have hx : Hid ((0 :: zs).getD (k + 1) 0 = zs[k]) := by
        show _ = _
        rw [getD_at (0 :: zs) (k + 1) (by rw [List.length_cons]; omega), List.getElem_cons_succ]
      have hN : Hid (RowI _ w.heap.size n (upTo (dl 0 zs) (k + 1))) := (hrow.set k (wrap64 (zs[k] - (0 :: zs).getD k 0))).congr fun j _ => congrArg (Value.int .i64) (upTo_step (dl 0 zs) k _ hd j)
      have hB : Hid (Below w.heap.size w (wr.setCell ⟨w.heap.size, k, none⟩ (.int .i64 (wrap64 (zs[k] - (0 :: zs).getD k 0))))) := hbel.setCell (by exact Nat.le_refl w.heap.size : w.heap.size ≤ (⟨w.heap.size, k, none⟩ : Addr).block) _
      clear hrow hbel hcu hd
      generalize (0 :: zs).getD k 0 = ah at *
      generalize zs[k] = x at *
      generalize upTo (dl 0 zs) k k = old at *
      go_wp2_with fail
      go_roundg (n - (k + 1))
      case rel => exact ⟨k + 1, by omega, rfl, by go_num, by rw [hx.out], hN.out, hB.out⟩
      case measure => omega
    · obtain rfl : k = n := by omega
      have hfin : Hid (RowI wr w.heap.size k (fun j => (dl 0 zs).getD j 0)) := World.rowIs.congr hrow fun j hj => by unfold upTo; rw [if_pos hj]
      have HB := Lib.hid hbel
      clear hrow hbel
      go_wp2_with fail
      go_ret
      exact ⟨rfl, hfin.out, HB.out⟩
set_option maxRecDepth 100000 in
set_option maxHeartbeats 2000000 in
theorem sums_any (w : World) (v : Value) (zs : List Int) (hv : IntS w v zs) (hn : zs.length ≤ 1073741824) :
    Calls Try.prog 53 #[v] w (NewI w (sm 0 zs)) := by
  obtain ⟨a, cap, rfl, _, _, hv⟩ := hv
  unfold NewI
  rw [sm_length]
  have hmk := run_make_row' (P := Try.prog) 38 3 (.int .i64 0) 8 Try.underlying38 Try.infoI rfl .i64 .i64 zs.length (by omega) (by omega)
  have hst : Hid (RowI (w.alloc (.cells (madeCells #[.int .i64 0] zs.length) 3)) w.heap.size zs.length (upTo (sm 0 zs) 0)) := (World.rowIs_made w (.int .i64 0) zs.length 3).congr fun j _ => by simp [upTo]
  have hal : Hid (Below w.heap.size w (w.alloc (.cells (madeCells #[.int .i64 0] zs.length) 3))) := (Below.refl _ _).alloc (Nat.le_refl _) _
  have HV := Lib.hid hv
  obtain ⟨n, hnz⟩ : ∃ n, n = zs.length := ⟨_, rfl⟩
  have HN := Lib.hid hnz
  rw [← hnz] at hn hmk hst hal ⊢
  clear hv hnz
  go_enter Try.func53, Try.ntmps53
  go_wp2_with fail
  go_loopg [4, 12] n (fun g x i wx => ∃ k : Nat, k ≤ n ∧ g = n - k ∧ i = .int .i64 (k : Int) ∧ x = .int .i64 ((0 :: sm 0 zs).getD k 0) ∧ RowI wx w.heap.size n (upTo (sm 0 zs) k) ∧ Below w.heap.size w wx)
  case atStart => exact ⟨0, Nat.zero_le _, rfl, rfl, rfl, hst.out, hal.out⟩
  case round =>
    clear hst hal hmk
    obtain ⟨k, hk, rfl, rfl, rfl, hrow, hbel⟩ := hrel
    by_cases hkn : k < n
    · have i1 : (k : Int) < (n : Int) := by omega
      have kx : k < zs.length := by rw [← HN.out]; exact hkn
      obtain ⟨g, o, rfl, hg, hcu⟩ := HV.out (by omega)
      have c1 : wr.cell? ⟨g, o + k, none⟩ = some (.int .i64 zs[k]) := (hbel.cell (p := ⟨g, o + k, none⟩) hg).trans (hcu k kx)
      have c2 := World.rowIs.cell hrow hkn
      have f2 := World.rowIs.frozen hrow k
      have hd : (sm 0 zs).getD k 0 = wrap64 ((0 :: sm 0 zs).getD k 0 + zs[k]) := by
        rw [getD_at _ k (by rw [sm_length]; exact kx), sm_get zs 0 k kx, getD_at (0 :: sm 0 zs) k (by rw [List.length_cons, sm_length]; omega)]
      have hx : Hid ((0 :: sm 0 zs).getD (k + 1) 0 = wrap64 ((0 :: sm 0 zs).getD k 0 + zs[k])) := by
        show _ = _
        rw [getD_at (0 :: sm 0 zs) (k + 1) (by rw [List.length_cons, sm_length]; omega), List.getElem_cons_succ, ← hd, getD_at _ k (by rw [sm_length]; exact kx)]
      have hN : Hid (RowI _ w.heap.size n (upTo (sm 0 zs) (k + 1))) := (hrow.set k (wrap64 ((0 :: sm 0 zs).getD k 0 + zs[k]))).congr fun j _ => congrArg (Value.int .i64) (upTo_step (sm 0 zs) k _ hd j)
      have hB : Hid (Below w.heap.size w (wr.setCell ⟨w.heap.size, k, none⟩ (.int .i64 (wrap64 ((0 :: sm 0 zs).getD k 0 + zs[k]))))) := hbel.setCell (by exact Nat.le_refl w.heap.size : w.heap.size ≤ (⟨w.heap.size, k, none⟩ : Addr).block) _
      clear hrow hbel hcu hd
      generalize (0 :: sm 0 zs).getD k 0 = ah at *
      generalize zs[k] = x at *
      generalize upTo (sm 0 zs) k k = old at *
      go_wp2_with fail
      go_roundg (n - (k + 1))
      case rel => exact ⟨k + 1, by omega, rfl, by go_num, by rw [hx.out], hN.out, hB.out⟩
      case measure => omega
    · obtain rfl : k = n := by omega
      have hfin : Hid (RowI wr w.heap.size k (fun j => (sm 0 zs).getD j 0)) := World.rowIs.congr hrow fun j hj => by unfold upTo; rw [if_pos hj]
      have HB := Lib.hid hbel
      clear hrow hbel
      go_wp2_with fail
      go_ret
      exact ⟨rfl, hfin.out, HB.out⟩
end Go.Proofs.Ytokdjaljeckghaa
