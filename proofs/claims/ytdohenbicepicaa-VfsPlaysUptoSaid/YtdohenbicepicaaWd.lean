/-
  The program's disk: which file a name stands for; the fault; a change, over what its closure does.
-/
import Derived.Test.YtdohenbicepicaaWc
namespace Go.Proofs.Ytdohenbicepicaa
open Go.RowKit Go.Maps

def findR (φ : Nat → Nat) (D : Vf.Dk) (s : ByteArray) : Option Nat × Int :=
  if Vf.first D (Vf.okN s) ≠ 0 then (none, Vf.first D (Vf.okN s)) else if Vf.find D.names s = 0 then (none, 11) else (some (φ (Vf.find D.names s)), 0)
theorem okN_size {s : ByteArray} (h : Vf.okN s = true) : s.size ≤ 40 := by
  unfold Vf.okN at h
  simp only [Bool.and_eq_true, decide_eq_true_eq] at h
  exact h.1.2
theorem first_ok {D : Vf.Dk} {ok : Bool} (h : Vf.first D ok = 0) : ok = true ∧ D.down = false := by
  unfold Vf.first at h
  cases ok <;> cases hd : D.down <;> simp [hd] at h ⊢

set_option maxRecDepth 100000 in
set_option maxHeartbeats 2000000 in
theorem findP_any (w : World) (p mn ms : Nat) (φ : Nat → Nat) (ρ : Nat → Value) (D : Vf.Dk) (s : ByteArray) (hA : PrA w p mn ms φ ρ D) (hs : s.size ≤ 9223372036854775807) :
    Calls Try.prog 53 #[.pointer (some ⟨p, 0, none⟩), .string s] w fun e' w' => e' = .returned (.tuple #[ptrV (findR φ D s).1, .int .i64 (findR φ D s).2]) ∧ Below w.heap.size w w' := by
  have hB : Below w.heap.size w (w.alloc (.cells #[.string s] 9)) := (Below.refl _ _).alloc (Nat.le_refl _) _
  have hA1 := hA.keep (w' := w.alloc (.cells #[.string s] 9)) fun k hk => hB.block k (hA.lt k hk)
  have hg : (w.alloc (.cells #[.string s] 9)).cell? ⟨w.heap.size, 0, none⟩ = some (.string s) := by simp
  have hRf := Lib.hid (refusalP_one (w.alloc (.cells #[.string s] 9)) p D _ _ _ _ _ hA1.row w.heap.size s hg hs)
  have d0 : (w.alloc (.cells #[.string s] 9)).cell? ⟨p, 0, none⟩ = some (.map (some mn)) := hA1.row.cell 0
  have HM := Lib.hid hA1.now
  have HB := Lib.hid hB
  obtain ⟨R, hR⟩ : ∃ R, R = findR φ D s := ⟨_, rfl⟩
  rw [← hR]
  unfold findR at hR
  clear hA hA1 hB hg
  generalize hw1 : w.alloc (.cells #[.string s] 9) = w1 at *
  by_cases h1 : Vf.first D (Vf.okN s) ≠ 0
  · rw [if_pos h1] at hR
    have e1 : (Vf.first D (Vf.okN s) != 0) = true := by simpa using h1
    subst hR
    clear h1
    generalize Vf.first D (Vf.okN s) = fe at *
    go_enter Try.func53, Try.ntmps53
    go_wp2_with (first | (go_at_call 41; refine hRf.out.mono ?_; rintro e1 w1 ⟨rfl, rfl⟩))
    go_ret2
    exact ⟨rfl, HB.out⟩
  · rw [if_neg h1] at hR
    have h1' : Vf.first D (Vf.okN s) = 0 := by simpa using h1
    have hs40 := okN_size (first_ok h1').1
    rw [h1'] at hRf
    clear h1 h1'
    have hsm : s.size ≤ maxLen := by unfold maxLen; omega
    by_cases h2 : Vf.find D.names s = 0
    · rw [if_pos h2] at hR
      have hF : Vf.leads φ D.names s = none := by unfold Vf.leads; rw [if_pos h2]
      have HF := Lib.hid hF
      subst hR
      clear h2 hF
      go_enter Try.func53, Try.ntmps53
      go_wp2_with (first | (go_at_call 41; refine hRf.out.mono ?_; rintro e1 w1 ⟨rfl, rfl⟩) | (at_lookup; refine wpList_look _ rfl _ _ rfl mn _ _ rfl HM.out s rfl hsm ?_; rw [HF.out]; unfold ptrV))
      go_ret2
      exact ⟨rfl, HB.out⟩
    · rw [if_neg h2] at hR
      have hF : Vf.leads φ D.names s = some (φ (Vf.find D.names s)) := by unfold Vf.leads; rw [if_neg h2]
      have HF := Lib.hid hF
      subst hR
      clear h2 hF
      generalize φ (Vf.find D.names s) = g at *
      go_enter Try.func53, Try.ntmps53
      go_wp2_with (first | (go_at_call 41; refine hRf.out.mono ?_; rintro e1 w1 ⟨rfl, rfl⟩) | (at_lookup; refine wpList_look _ rfl _ _ rfl mn _ _ rfl HM.out s rfl hsm ?_; rw [HF.out]; unfold ptrV))
      go_ret2
      exact ⟨rfl, HB.out⟩

set_option maxHeartbeats 1000000 in
theorem failP_row (w : World) (p : Nat) (c0 c1 c2 c3 c5 : Value) (e : Int) (h : RowT 57 w p #[c0, c1, c2, c3, .int .i64 e, c5]) :
    Calls Try.prog 65 #[.pointer (some ⟨p, 0, none⟩)] w fun e' w' => e' = .returned (.int .i64 e) ∧ w' = ((w.setCell ⟨p, 3, none⟩ (.bool (decide (e = 15)))).setCell ⟨p, 5, none⟩ (.int .i64 0)).setCell ⟨p, 4, none⟩ (.int .i64 0) := by
  have d4 : w.cell? ⟨p, 4, none⟩ = some (.int .i64 e) := h.cell 4
  have d3 : w.cell? ⟨p, 3, none⟩ = some c3 := h.cell 3
  have f3 := h.frozen 3
  have hC := Lib.hid (calmP_row (w.setCell ⟨p, 3, none⟩ (.bool (decide (e = 15)))) p _ _ _ _ _ _ (h.set 3 _))
  have e15 : (e == 15) = decide (e = 15) := by rw [Bool.eq_iff_iff]; simp
  clear h
  generalize decide (e = 15) = q at *
  go_enter Try.func65, Try.ntmps65
  go_wp2_with (go_at_call 23; refine hC.out.mono ?_; rintro e1 w1 ⟨rfl, rfl⟩)
  go_ret
  exact ⟨rfl, rfl⟩
end Go.Proofs.Ytdohenbicepicaa
