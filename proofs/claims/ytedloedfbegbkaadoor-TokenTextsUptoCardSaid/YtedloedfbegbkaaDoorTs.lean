/-
  Whether two lists of terms at their places are alike.
-/
import Derived.Test.YtedloedfbegbkaaDoorTn
namespace Go.Proofs.YtedloedfbegbkaaDoor
open Go.RowKit

set_option maxRecDepth 100000 in
set_option maxHeartbeats 1000000 in
theorem same_any (w : World) (u v : Value) (xs ys : List Ut.Tk) (hu : TkS w u xs) (hv : TkS w v ys) :
    Calls Tryd.prog 13 #[u, v] w fun e' w' => e' = .returned (.bool (decide (xs = ys))) ∧ Below w.heap.size w w' := by
  obtain ⟨a, cap, rfl, hx, hx', hu⟩ := hu
  obtain ⟨a', cap', rfl, hy, hy', hv⟩ := hv
  have hx2 : xs.length ≤ 9223372036854775807 := by omega
  have HU := Lib.hid hu
  have HV := Lib.hid hv
  clear hu hv hx hx' hy hy'
  by_cases hl : xs.length = ys.length
  · obtain ⟨n, hn⟩ : ∃ n, n = xs.length := ⟨_, rfl⟩
    have hn2 : ys.length = n := by omega
    have HN := Lib.hid hn
    have HN2 := Lib.hid hn2
    rw [← hn] at hx2 ⊢
    rw [hn2]
    clear hl hn hn2
    go_enter Tryd.func13, Tryd.ntmps13
    go_wp2_with fail
    go_loopg [5] n (fun g i wx => ∃ k : Nat, k ≤ n ∧ g = n - k ∧ i = .int .i64 k ∧ Hid (xs.take k = ys.take k) ∧ Below w.heap.size w wx)
    case atStart => exact ⟨0, Nat.zero_le _, rfl, rfl, by show _ = _; rw [List.take_zero, List.take_zero], Below.refl _ _⟩
    case round =>
      obtain ⟨k, hk, rfl, rfl, hS, hbel⟩ := hrel
      by_cases hkn : k < n
      · have i1 : (k : Int) < (n : Int) := by omega
        have kx : k < xs.length := by rw [← HN.out]; exact hkn
        have ky : k < ys.length := by rw [HN2.out]; exact hkn
        obtain ⟨g, rfl, hg, hcu⟩ := HU.out (by omega)
        obtain ⟨g', rfl, hg', hcv⟩ := HV.out (by omega)
        have c1 : wr.cell? ⟨g, k * 2, none⟩ = some (.string xs[k].s) := (hbel.cell (p := ⟨g, k * 2, none⟩) hg).trans (hcu k kx).1
        have c2 : wr.cell? ⟨g, k * 2 + 1, none⟩ = some (.int .i64 xs[k].at') := (hbel.cell (p := ⟨g, k * 2 + 1, none⟩) hg).trans (hcu k kx).2
        have c3 : wr.cell? ⟨g', k * 2, none⟩ = some (.string ys[k].s) := (hbel.cell (p := ⟨g', k * 2, none⟩) hg').trans (hcv k ky).1
        have c4 : wr.cell? ⟨g', k * 2 + 1, none⟩ = some (.int .i64 ys[k].at') := (hbel.cell (p := ⟨g', k * 2 + 1, none⟩) hg').trans (hcv k ky).2
        have HBE := Lib.hid hbel
        by_cases he : xs[k] = ys[k]
        · have hst : Hid (xs.take (k + 1) = ys.take (k + 1)) := takeT_snoc kx ky hS.out he
          rw [← he] at c3 c4
          clear hS he hcu hcv hbel
          generalize xs[k] = x at *
          obtain ⟨xs', xn⟩ := x
          dsimp only at c1 c2 c3 c4
          go_wp2_with fail
          go_quiet (fail)
          go_wp2_with fail
          go_roundg (n - (k + 1))
          case rel => exact ⟨k + 1, by omega, rfl, by go_num, hst, by first | exact HBE.out | exact belowN HBE.out _⟩
          case measure => omega
        · have hfin : Hid (decide (xs = ys) = false) := decide_eq_false (fun h => he (by subst h; rfl))
          clear hS hcu hcv hbel
          generalize xs[k] = x at *
          generalize ys[k] = y at *
          obtain ⟨xs', xn⟩ := x
          obtain ⟨ys', yn⟩ := y
          dsimp only at c1 c2 c3 c4
          by_cases h1 : xs' = ys'
          · subst h1
            have he' : (xn == yn) = false := by
              simp only [Ut.Tk.mk.injEq, true_and] at he
              simpa using he
            clear he
            go_wp2_with fail
            go_quiet (fail)
            go_wp2_with fail
            go_ret
            exact ⟨by rw [hfin.out]; rfl, by first | exact HBE.out | exact belowN HBE.out _⟩
          · have he' : (xs'.toList == ys'.toList) = false := by
              rw [beq_eq_false_iff_ne]
              intro h
              rw [ByteArray.toList_eq, ByteArray.toList_eq] at h
              exact h1 (ByteArray.ext (Array.toList_inj.1 h))
            clear he h1
            go_wp2_with fail
            go_quiet (fail)
            go_wp2_with fail
            go_ret
            exact ⟨by rw [hfin.out]; rfl, by first | exact HBE.out | exact belowN HBE.out _⟩
      · have hfin : Hid (decide (xs = ys) = true) := by
          obtain rfl : k = n := by omega
          have h := hS.out
          rw [List.take_of_length_le (by rw [← HN.out]; exact Nat.le_refl _), List.take_of_length_le (by rw [HN2.out]; exact Nat.le_refl _)] at h
          exact decide_eq_true h
        have HBE := Lib.hid hbel
        clear hS hbel
        go_wp2_with fail
        go_ret
        exact ⟨by rw [hfin.out]; rfl, HBE.out⟩
  · have hfin : Hid (decide (xs = ys) = false) := decide_eq_false (fun h => hl (by rw [h]))
    have hl' : ((xs.length : Int) != (ys.length : Int)) = true := by simp; omega
    go_enter Tryd.func13, Tryd.ntmps13
    go_wp2_with fail
    go_ret
    exact ⟨by rw [hfin.out]; rfl, Below.refl _ _⟩
end Go.Proofs.YtedloedfbegbkaaDoor
