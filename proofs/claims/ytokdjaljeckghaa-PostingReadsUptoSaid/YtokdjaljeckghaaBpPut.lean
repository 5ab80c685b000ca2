/-
  What putBits does: the bits of a number stand at a place of a row of bytes.
-/
import Derived.Test.YtokdjaljeckghaaBm
import Derived.Test.YtokdjaljeckghaaBpC
import Derived.BigRegion
namespace Go.Proofs.Ytokdjaljeckghaa
open Go.RowKit

/-- A row of bytes: a number's, the lowest first. -/
def RowB (w : World) (g L V : Nat) : Prop := w.rowIs g 5 L (fun j => .int .u8 ((Bp.cel V j : Nat) : Int))
theorem RowB.put {w : World} {g L V A q : Nat} (h : RowB w g L V) (hV : V < 2 ^ A) (hq : q < 2 ^ (8 - A % 8)) :
    RowB (w.setCell ⟨g, A / 8, none⟩ (.int .u8 ((Bp.cel V (A / 8) + 2 ^ (A % 8) * q : Nat) : Int))) g L (V + 2 ^ A * q) := by
  refine (World.rowIs.set h _ _).congr fun j _ => ?_
  by_cases e : j = A / 8
  · subst e
    rw [if_pos rfl, (Bp.put_here V A q hV hq).1]
  · rw [if_neg e, Bp.put_other V A q j hV hq e]

set_option maxRecDepth 100000 in
set_option maxHeartbeats 2000000 in
theorem putBits_any (w : World) (g L cap A n V : Nat) (hrow : RowB w g L V) (hV : V < 2 ^ A) (hn : n < 18446744073709551616) (hA : A ≤ 8 * L) (hfit : n < 2 ^ (8 * L - A)) (hL : L ≤ 1099511627776) :
    Calls Try.prog 61 #[.slice (some ⟨g, 0, none⟩) L cap, .int .i64 A, .int .u64 n] w fun e' w' => e' = .returned (.tuple #[]) ∧ RowB w' g L (V + 2 ^ A * n) ∧ Below g w w' := by
  have HR := Lib.hid hrow
  have HV := Lib.hid hV
  have HF := Lib.hid hfit
  clear hrow hV hfit
  go_enter Try.func61, Try.ntmps61
  go_wp2_with fail
  go_loopg [1, 2] n (fun y a x wx => ∃ (B U : Nat), a = .int .i64 (B : Int) ∧ x = .int .u64 (y : Int) ∧ y < 18446744073709551616 ∧ B ≤ 8 * L ∧ Hid (U < 2 ^ B) ∧ Hid (y < 2 ^ (8 * L - B)) ∧ Hid (U + 2 ^ B * y = V + 2 ^ A * n) ∧ RowB wx g L U ∧ Below g w wx)
  case atStart => exact ⟨A, V, rfl, rfl, hn, hA, HV, HF, rfl, HR.out, Below.refl _ _⟩
  case round =>
    clear HR HV HF hn hA
    obtain ⟨B, U, rfl, rfl, hy, hB, hU, hF, hE, hrow, hbel⟩ := hrel
    by_cases h0 : gk = 0
    · subst h0
      have hend : Hid (U = V + 2 ^ A * n) := by have h := hE.out; rw [Nat.mul_zero, Nat.add_zero] at h; exact h
      have HR := Lib.hid hrow
      clear hrow hE
      go_wp2_with fail
      go_end0
      exact ⟨rfl, by rw [← hend.out]; exact HR.out, hbel⟩
    · have hB8 : B < 8 * L := by
        by_cases h : B < 8 * L
        · exact h
        · have h2 := hF.out
          rw [show 8 * L - B = 0 from by omega] at h2
          omega
      obtain ⟨p, hp⟩ : ∃ p, p = B / 8 := ⟨_, rfl⟩
      obtain ⟨r, hr⟩ : ∃ r, r = B % 8 := ⟨_, rfl⟩
      have r8 : r < 8 := by omega
      have hpL : p < L := by omega
      have d1 : (B : Int).tdiv 8 = (p : Int) := by rw [Int.tdiv_eq_ediv_of_nonneg (by omega)]; omega
      have d2 : (B : Int) / 8 = (p : Int) := by omega
      have d3 : (B : Int).tmod 8 = (r : Int) := by rw [Int.tmod_eq_emod_of_nonneg (by omega)]; omega
      have d4 : (B : Int) % 8 = (r : Int) := by omega
      have n1 : ((gk : Int) != 0) = true := by simp; omega
      have i1 : (p : Int) < (L : Int) := by omega
      have hc := World.rowIs.cell hrow hpL
      have hf := World.rowIs.frozen hrow p
      obtain ⟨t, ht⟩ : ∃ t, t = 8 - r := ⟨_, rfl⟩
      have t1 : (8 : Int) - (r : Int) = (t : Int) := by omega
      have htr : t ≤ 8 ∧ 1 ≤ t := by omega
      have hBt : B + t ≤ 8 * L := by omega
      have HQ : gk % 2 ^ t < 2 ^ t := Nat.mod_lt _ (Nat.two_pow_pos _)
      have hU' := hU.out
      have hq8 : gk % 2 ^ t < 2 ^ (8 - B % 8) := by rw [← hr, ← ht]; exact HQ
      have hhere := Bp.put_here U B (gk % 2 ^ t) hU' hq8
      have hN := hrow.put (A := B) (q := gk % 2 ^ t) hU' hq8
      have hU2 : Hid (U + 2 ^ B * (gk % 2 ^ t) < 2 ^ (B + t)) := by
        have h := Bp.put_lt U B (gk % 2 ^ t) hU' hq8
        rw [← hr, ← ht] at h
        exact h
      have hE2 : Hid (U + 2 ^ B * (gk % 2 ^ t) + 2 ^ (B + t) * (gk / 2 ^ t) = V + 2 ^ A * n) := by
        have h := Bp.put_rest U B gk
        rw [← hr, ← ht, hE.out] at h
        exact h
      have hF2 : Hid (gk / 2 ^ t < 2 ^ (8 * L - (B + t))) := by
        show _ < _
        have h := hF.out
        rw [show 8 * L - B = t + (8 * L - (B + t)) from by omega, Nat.pow_add] at h
        exact Nat.div_lt_of_lt_mul h
      rw [← hp, ← hr] at hhere hN
      have hcl := Bp.cel_lt U p
      have hor : bits .or .u8 ((Bp.cel U p : Nat) : Int) (IntKind.u64.wrap ((gk : Int) * 2 ^ r) % 256) = ((Bp.cel U p + 2 ^ r * (gk % 2 ^ t) : Nat) : Int) := by
        rw [IntKind.wrap_u64, show (gk : Int) * 2 ^ r % 18446744073709551616 % 256 = ((gk * 2 ^ r % 18446744073709551616 % 256 : Nat) : Int) from by simp, u8_or_nat _ _ hcl (by omega), Bp.put_or _ _ _ hhere.2.1 r8, ht]
      have hdv : (gk : Int) / 2 ^ t = ((gk / 2 ^ t : Nat) : Int) := by simp
      have hlt : gk / 2 ^ t < gk := Nat.div_lt_self (by omega) (by
        have := Nat.pow_le_pow_right (n := 2) (by omega) htr.2
        omega)
      have hX2 := hhere.2.2
      have HN := Lib.hid hN
      have HBE := Lib.hid (hbel.setCell (by exact Nat.le_refl g : g ≤ (⟨g, p, none⟩ : Addr).block) (.int .u8 ((Bp.cel U p + 2 ^ r * (gk % 2 ^ t) : Nat) : Int)))
      clear hrow hbel hU hF hE hp hr ht hU' hq8 hhere hN HQ
      generalize Bp.cel U p + 2 ^ r * (gk % 2 ^ t) = X at *
      generalize Bp.cel U p = c at *
      generalize U + 2 ^ B * (gk % 2 ^ t) = U2 at *
      generalize gk / 2 ^ t = y2 at *
      obtain ⟨t8, t0⟩ := htr
      go_wp2_with fail
      go_region
      go_wp2_with fail
      go_roundg y2
      case rel => exact ⟨B + t, U2, by go_num, by first | rfl | go_num, by omega, hBt, hU2, hF2, hE2, by first | exact World.rowIs.drew HN.out | exact HN.out, by first | exact HBE.out.drew | exact HBE.out⟩
      case measure => omega
end Go.Proofs.Ytokdjaljeckghaa
