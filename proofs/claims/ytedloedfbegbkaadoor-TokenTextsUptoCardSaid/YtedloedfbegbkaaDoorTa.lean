/-
  The fixed answer that each statement asks first.
-/
import Derived.Test.YtedloedfbegbkaaDoorTv
namespace Go.Proofs.YtedloedfbegbkaaDoor
open Go.RowKit

/-- A slice of terms that a call has just laid. -/
theorem tks_lit (w : World) (l : List Ut.Tk) (h0 : l.length ≤ 9223372036854775807) : TkS (w.alloc (.cells (tksV l).toArray 41)) (.slice (some ⟨w.heap.size, 0, none⟩) l.length l.length) l := by
  refine ⟨_, l.length, rfl, Nat.le_refl _, h0, fun _ => ⟨w.heap.size, rfl, by simp, fun i hi => ⟨?_, ?_⟩⟩⟩
  · rw [World.cell?_alloc_at _ _ _ _ rfl]
    simpa using tksV_s l i hi
  · rw [World.cell?_alloc_at _ _ _ _ rfl]
    simpa using tksV_n l i hi
theorem awake_toks : Ut.tokE [84, 104, 101, 32, 70, 79, 88, 46] = 0 ∧ Ut.tokS [84, 104, 101, 32, 70, 79, 88, 46] = [[116, 104, 101], [102, 111, 120]] := by decide +kernel

set_option maxRecDepth 100000 in
set_option maxHeartbeats 1000000 in
theorem awakeT_any (w : World) (hT : Tabs w) : Calls Tryd.prog 12 #[] w fun e' w' => e' = .returned (.bool true) ∧ Below w.heap.size w w' := by
  have h1 : Hid (Calls Tryd.prog 6 #[.string ⟨#[84, 104, 101, 32, 70, 79, 88, 46]⟩] w fun e' w' => ∃ a cap, e' = .returned (.tuple #[.slice a 2 cap, .int .i64 0]) ∧ TkS w' (.slice a 2 cap) [⟨⟨#[116, 104, 101]⟩, 0⟩, ⟨⟨#[102, 111, 120]⟩, 1⟩] ∧ Below w.heap.size w w') := by
    have h := tokens_any w ⟨#[84, 104, 101, 32, 70, 79, 88, 46]⟩ hT
    refine h.mono fun e' w' ⟨v, h1, h2, h3⟩ => ?_
    rw [show (⟨#[84, 104, 101, 32, 70, 79, 88, 46]⟩ : ByteArray).data.toList = [84, 104, 101, 32, 70, 79, 88, 46] from rfl] at h1 h2
    rw [awake_toks.1] at h1
    rw [awake_toks.2] at h2
    have hi := h2.tks
    obtain ⟨_, a, cap, rfl, _⟩ := h2.opened
    exact ⟨a, cap, h1, hi, h3⟩
  have h2 : Hid (∀ (w' : World) v, TkS w' v [⟨⟨#[116, 104, 101]⟩, 0⟩, ⟨⟨#[102, 111, 120]⟩, 1⟩] → Calls Tryd.prog 13 #[v, .slice (some ⟨w'.heap.size, 0, none⟩) 2 2] (w'.alloc (.cells #[.string ⟨#[116, 104, 101]⟩, .int .i64 0, .string ⟨#[102, 111, 120]⟩, .int .i64 1] 41)) fun e' w2 => e' = .returned (.bool true) ∧ Below w'.heap.size w' w2) := fun w' v hv => by
    have hb : Below w'.heap.size w' (w'.alloc (.cells #[.string ⟨#[116, 104, 101]⟩, .int .i64 0, .string ⟨#[102, 111, 120]⟩, .int .i64 1] 41)) := (Below.refl _ _).alloc (Nat.le_refl _) _
    have h := same_any _ _ _ _ _ (hv.below hb (Nat.le_refl _)) (tks_lit w' [⟨⟨#[116, 104, 101]⟩, 0⟩, ⟨⟨#[102, 111, 120]⟩, 1⟩] (by simp))
    rw [decide_eq_true rfl] at h
    exact h.mono fun e' w2 ⟨h1, h2⟩ => ⟨h1, hb.trans (h2.mono (by simp))⟩
  clear hT
  go_enter Tryd.func12, Tryd.ntmps12
  go_wp2_with fail
  refine h1.out.mono ?_
  rintro e1 w1 ⟨a, cap, rfl, hi, hb1⟩
  have HI := Lib.hid hi
  have HB1 := Lib.hid hb1
  clear hi hb1 h1
  go_wp2_with fail
  refine (h2.out w1 _ HI.out).mono ?_
  rintro e1 w2 ⟨rfl, hb2⟩
  have HB2 : Hid (Below w.heap.size w w2) := HB1.out.trans (hb2.mono HB1.out.size)
  clear hb2 h2
  go_wp2_with fail
  go_ret
  exact ⟨rfl, HB2.out⟩
end Go.Proofs.YtedloedfbegbkaaDoor
