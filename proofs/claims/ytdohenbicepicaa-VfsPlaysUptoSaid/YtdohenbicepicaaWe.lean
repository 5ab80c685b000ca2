/-
  The program's disk: a change that nothing refuses any more, over what its closure does (made by gen_we.py).
-/
import Derived.Test.YtdohenbicepicaaWd
namespace Go.Proofs.Ytdohenbicepicaa
open Go.RowKit Go.Maps

namespace Vf
def dec (D : Dk) : Dk := { D with armed := if 0 < D.armed then D.armed - 1 else D.armed }
def put (D : Dk) (f : List Fl) (n k : List Lk) (l : Nat) : Dk := { D with files := f, names := n, kept := k, last := l }
def chgR (D : Dk) (f : List Fl) (n k : List Lk) (l : Nat) : Int × Dk := if (done D).1 ≠ 0 then done D else (0, put (done D).2 f n k l)
/-- What a change asks of the disk. -/
structure Fit (D : Dk) : Prop where
  armed : -1 ≤ D.armed ∧ D.armed ≤ 9223372036854775807
  fault : 0 ≤ D.armed → D.fault = 13 ∨ D.fault = 14 ∨ D.fault = 15
  steps : D.steps ≤ 4611686018427387904
end Vf
def ClPost (w1 : World) (p : Nat) (F : Nat → Prop) (D2 : Vf.Dk) (e : Ending) (w2 : World) : Prop := e = .returned (.tuple #[]) ∧ PA w2 p D2 (FNew F w1 w2) ∧ KeptF F w1 w2

theorem fnew_same {F : Nat → Prop} {w w1 w2 w3 : World} (h1 : w1.heap.size = w.heap.size) (h3 : w3.heap.size = w2.heap.size) (k : Nat) (h : FNew F w1 w2 k) : FNew F w w3 k := by
  unfold FNew at *
  rw [← h1, h3]
  exact h
/-- Behind the closure the steps are counted. -/
theorem change_end {w w1 w2 : World} {p mn ms : Nat} {φ : Nat → Nat} {ρ : Nat → Value} {D D1 : Vf.Dk} {F : Nat → Prop} {f : List Vf.Fl} {n kp : List Vf.Lk} {l : Nat} (hp : F p) (h0 : PrA w2 p mn ms φ ρ (Vf.put D1 f n kp l))
    (hF2 : ∀ k, PFoot p mn ms φ ρ (Vf.put D1 f n kp l) k → FNew F w1 w2 k) (hl2 : ∀ k, FNew F w1 w2 k → k < w2.heap.size) (hK : KeptF F w w1) (h1 : w1.heap.size = w.heap.size) (hK2 : KeptF F w1 w2)
    (he : D = { D1 with steps := D1.steps + 1 }) :
    PA (w2.setCell ⟨p, 2, none⟩ (.int .i64 ((D1.steps : Int) + 1))) p (Vf.put D f n kp l) (FNew F w (w2.setCell ⟨p, 2, none⟩ (.int .i64 ((D1.steps : Int) + 1)))) ∧ KeptF F w (w2.setCell ⟨p, 2, none⟩ (.int .i64 ((D1.steps : Int) + 1))) := by
  subst he
  have hT : PA (w2.setCell ⟨p, 2, none⟩ (.int .i64 ((D1.steps : Int) + 1))) p (Vf.put { D1 with steps := D1.steps + 1 } f n kp l) (FNew F w1 w2) :=
    PA.turned h0 hF2 hl2 (h0.row.set 2 _) (fun k hk => heap_other _ _ _ _ _ hk) (setCell_size _ _ _) rfl rfl rfl
  have hs : ∀ k, FNew F w1 w2 k → FNew F w (w2.setCell ⟨p, 2, none⟩ (.int .i64 ((D1.steps : Int) + 1))) k := fnew_same h1 (setCell_size _ _ _)
  refine ⟨hT.more hs fun k hk => ?_, (hK.trans hK2).set p 2 hp _⟩
  rw [setCell_size]
  refine hl2 k ?_
  unfold FNew at hk ⊢
  rw [setCell_size, ← h1] at hk
  exact hk

set_option maxRecDepth 100000 in
set_option maxHeartbeats 2000000 in
theorem change_create (w : World) (p mn ms : Nat) (φ : Nat → Nat) (ρ : Nat → Value) (D : Vf.Dk) (F : Nat → Prop) (a b : Addr) (f : List Vf.Fl) (n k : List Vf.Lk) (l : Nat)
    (hA : PrA w p mn ms φ ρ D) (hF : ∀ k, PFoot p mn ms φ ρ D k → F k) (hl : ∀ k, F k → k < w.heap.size) (hok : Vf.Fit D)
    (hC : ∀ w1, PrA w1 p mn ms φ ρ (Vf.dec D) → (∀ k, k ≠ p → w1.heap[k]? = w.heap[k]?) → w1.heap.size = w.heap.size → Calls Try.prog 43 #[.pointer (some a), .pointer (some b)] w1 (ClPost w1 p F (Vf.put (Vf.dec D) f n k l))) :
    Calls Try.prog 42 #[.pointer (some ⟨p, 0, none⟩), .func (.func 43) #[] #[.pointer (some a), .pointer (some b)]] w (PPost w p F (Vf.chgR D f n k l)) := by
  obtain ⟨har, hfa, hst⟩ := hok
  have hp := PA.p_in hA hF
  have d2 : w.cell? ⟨p, 2, none⟩ = some (.int .i64 (D.steps : Int)) := hA.row.cell 2
  have d4 : w.cell? ⟨p, 4, none⟩ = some (.int .i64 (Vf.faultC D)) := hA.row.cell 4
  have d5 : w.cell? ⟨p, 5, none⟩ = some (.int .i64 (Vf.leftC D)) := hA.row.cell 5
  have f5 := hA.row.frozen 5
  have hst' : Hid (D.steps ≤ 4611686018427387904) := hst
  rcases (show D.armed = -1 ∨ D.armed = 0 ∨ 0 < D.armed by omega) with h0 | h0 | h0
  · -- not armed
    have hR : Hid (Vf.chgR D f n k l = (0, Vf.put { D with steps := D.steps + 1 } f n k l)) := by
      show _ = _
      unfold Vf.chgR Vf.done
      simp only [h0]
      rfl
    have hdec : Vf.dec D = D := by
      unfold Vf.dec
      rw [if_neg (by omega)]
    obtain ⟨q1, q2⟩ := faultC_neg h0
    rw [q1] at d4
    rw [hdec] at hC
    have hC1 := Lib.hid (hC w hA (fun _ _ => rfl) rfl)
    have HP : Hid (F p) := hp
    clear hA hF hl hfa h0 hdec q1 q2 d5 f5 har hC d2
    go_enter Try.func42, Try.ntmps42
    go_wp2_with (go_at_call 43; go_loud ((refine hC1.out.mono ?_; rintro e1 w2 ⟨rfl, hP2, hK2⟩; obtain ⟨mn2, ms2, φ2, ρ2, hA2, hF2, hl2⟩ := hP2; have k2 : w2.cell? ⟨p, 2, none⟩ = some (.int .i64 (D.steps : Int)) := hA2.row.cell 2; have g2 := hA2.row.frozen 2; have HE := Lib.hid (change_end (D := { D with steps := D.steps + 1 }) HP.out hA2 hF2 hl2 (KeptF.refl F w) rfl hK2 rfl); have hs := hst'.out; clear hA2 hF2 hl2 hK2)))
    go_ret
    rw [hR.out]
    exact ⟨rfl, HE.out⟩
  · -- the fault comes
    have hff := hfa (by omega)
    have hR : Hid (Vf.chgR D f n k l = (D.fault, { D with armed := -1, down := decide (D.fault = 15) })) := by
      show _ = _
      unfold Vf.chgR Vf.done
      rw [if_pos h0, if_pos (by simp; omega)]
    have q1 : Vf.faultC D = D.fault := by unfold Vf.faultC; rw [if_neg (by omega)]
    have q2 : Vf.leftC D = 0 := by unfold Vf.leftC; rw [if_neg (by omega)]; exact h0
    have hrow := hA.row
    unfold prC at hrow
    rw [q1] at d4 hrow
    rw [q2] at d5
    have e4 : (D.fault != 0) = true := by simp; omega
    have hFl := Lib.hid (failP_row w p _ _ _ _ _ D.fault hrow)
    have hT : Hid (PA (((w.setCell ⟨p, 3, none⟩ (.bool (decide (D.fault = 15)))).setCell ⟨p, 5, none⟩ (.int .i64 0)).setCell ⟨p, 4, none⟩ (.int .i64 0)) p { D with armed := -1, down := decide (D.fault = 15) } F) := by
      refine PA.turned hA hF hl ?_ (fun k hk => ?_) ?_ rfl rfl rfl
      · exact ((hA.row.set 3 _).set 5 _).set 4 _
      · rw [heap_other _ _ _ _ _ hk, heap_other _ _ _ _ _ hk, heap_other _ _ _ _ _ hk]
      · rw [setCell_size, setCell_size, setCell_size]
    have hK : Hid (KeptF F w (((w.setCell ⟨p, 3, none⟩ (.bool (decide (D.fault = 15)))).setCell ⟨p, 5, none⟩ (.int .i64 0)).setCell ⟨p, 4, none⟩ (.int .i64 0))) := (((KeptF.refl F w).set p 3 hp _).set p 5 hp _).set p 4 hp _
    have H : Hid (PA w p D F) := ⟨mn, ms, φ, ρ, hA, hF, hl⟩
    clear hA hF hl hfa h0 q1 q2 f5 har hC d2 hff hrow
    generalize D.fault = fl at *
    go_enter Try.func42, Try.ntmps42
    go_wp2_with (go_at_call 65; refine hFl.out.mono ?_; rintro e1 w2 ⟨rfl, rfl⟩)
    go_ret
    rw [hR.out]
    exact ⟨rfl, hT.out.more (fun k hk => .inl hk) (FNew.lt H.out hK.out.size), hK.out⟩
  · -- armed, and it doesn't come yet
    have hff := hfa (by omega)
    have hR : Hid (Vf.chgR D f n k l = (0, Vf.put { D with armed := D.armed - 1, steps := D.steps + 1 } f n k l)) := by
      show _ = _
      have hdn : Vf.done D = (0, { D with armed := D.armed - 1, steps := D.steps + 1 }) := by
        unfold Vf.done
        rw [if_neg (show ¬ D.armed = 0 by omega), if_pos h0]
      unfold Vf.chgR
      rw [hdn, if_neg (by simp)]
    have hdec : Vf.dec D = { D with armed := D.armed - 1 } := by
      unfold Vf.dec
      rw [if_pos h0]
    have q1 : Vf.faultC D = D.fault := by unfold Vf.faultC; rw [if_neg (by omega)]
    have q2 : Vf.leftC D = D.armed := by unfold Vf.leftC; rw [if_neg (by omega)]
    rw [q1] at d4
    rw [q2] at d5
    have e4 : (D.fault != 0) = true := by simp; omega
    have e5 : (D.armed == 0) = false := by simp; omega
    have hw1 : PrA (w.setCell ⟨p, 5, none⟩ (.int .i64 (D.armed - 1))) p mn ms φ ρ { D with armed := D.armed - 1 } := by
      refine hA.turn ?_ (fun k hk => heap_other _ _ _ _ _ hk) rfl rfl rfl
      have h := hA.row.set 5 (.int .i64 (D.armed - 1))
      have e1 : prC mn ms { D with armed := D.armed - 1 } = (prC mn ms D).setIfInBounds 5 (.int .i64 (D.armed - 1)) := by
        unfold prC Vf.faultC Vf.leftC
        simp only [if_neg (show ¬ D.armed - 1 < 0 by omega), if_neg (show ¬ D.armed < 0 by omega)]
        rfl
      rw [e1]
      exact h
    rw [hdec] at hC
    have hC1 := Lib.hid (hC _ hw1 (fun k hk => heap_other _ _ _ _ _ hk) (setCell_size _ _ _))
    have HK1 : Hid (KeptF F w (w.setCell ⟨p, 5, none⟩ (.int .i64 (D.armed - 1)))) := (KeptF.refl F w).set p 5 hp _
    have HS1 : Hid ((w.setCell ⟨p, 5, none⟩ (.int .i64 (D.armed - 1))).heap.size = w.heap.size) := setCell_size _ _ _
    have HP : Hid (F p) := hp
    have hw : IntKind.i64.wrap (D.armed - 1) = D.armed - 1 := IntWalk.i64_in _ (by omega)
    have b1 : 0 ≤ D.armed - 1 ∧ D.armed - 1 ≤ 9223372036854775807 := by omega
    clear hA hF hl hfa h0 hdec q1 q2 har hC d2 hff hw1
    obtain ⟨ar, har⟩ : ∃ ar, ar = D.armed := ⟨_, rfl⟩
    rw [← har] at d5 e5 hC1 HK1 HS1 hR hw b1
    clear har
    generalize D.fault = fl at *
    go_enter Try.func42, Try.ntmps42
    go_wp2_with (go_at_call 43; go_loud ((refine hC1.out.mono ?_; rintro e1 w2 ⟨rfl, hP2, hK2⟩; obtain ⟨mn2, ms2, φ2, ρ2, hA2, hF2, hl2⟩ := hP2; have k2 : w2.cell? ⟨p, 2, none⟩ = some (.int .i64 (D.steps : Int)) := hA2.row.cell 2; have g2 := hA2.row.frozen 2; have HE := Lib.hid (change_end (D := { D with armed := ar - 1, steps := D.steps + 1, fault := fl }) HP.out hA2 hF2 hl2 HK1.out HS1.out hK2 rfl); have hs := hst'.out; clear hA2 hF2 hl2 hK2)))
    go_ret
    rw [hR.out]
    exact ⟨rfl, HE.out⟩

set_option maxRecDepth 100000 in
set_option maxHeartbeats 2000000 in
theorem change_syncDir (w : World) (p mn ms : Nat) (φ : Nat → Nat) (ρ : Nat → Value) (D : Vf.Dk) (F : Nat → Prop) (a : Addr) (f : List Vf.Fl) (n k : List Vf.Lk) (l : Nat)
    (hA : PrA w p mn ms φ ρ D) (hF : ∀ k, PFoot p mn ms φ ρ D k → F k) (hl : ∀ k, F k → k < w.heap.size) (hok : Vf.Fit D)
    (hC : ∀ w1, PrA w1 p mn ms φ ρ (Vf.dec D) → (∀ k, k ≠ p → w1.heap[k]? = w.heap[k]?) → w1.heap.size = w.heap.size → Calls Try.prog 47 #[.pointer (some a)] w1 (ClPost w1 p F (Vf.put (Vf.dec D) f n k l))) :
    Calls Try.prog 42 #[.pointer (some ⟨p, 0, none⟩), .func (.func 47) #[] #[.pointer (some a)]] w (PPost w p F (Vf.chgR D f n k l)) := by
  obtain ⟨har, hfa, hst⟩ := hok
  have hp := PA.p_in hA hF
  have d2 : w.cell? ⟨p, 2, none⟩ = some (.int .i64 (D.steps : Int)) := hA.row.cell 2
  have d4 : w.cell? ⟨p, 4, none⟩ = some (.int .i64 (Vf.faultC D)) := hA.row.cell 4
  have d5 : w.cell? ⟨p, 5, none⟩ = some (.int .i64 (Vf.leftC D)) := hA.row.cell 5
  have f5 := hA.row.frozen 5
  have hst' : Hid (D.steps ≤ 4611686018427387904) := hst
  rcases (show D.armed = -1 ∨ D.armed = 0 ∨ 0 < D.armed by omega) with h0 | h0 | h0
  · -- not armed
    have hR : Hid (Vf.chgR D f n k l = (0, Vf.put { D with steps := D.steps + 1 } f n k l)) := by
      show _ = _
      unfold Vf.chgR Vf.done
      simp only [h0]
      rfl
    have hdec : Vf.dec D = D := by
      unfold Vf.dec
      rw [if_neg (by omega)]
    obtain ⟨q1, q2⟩ := faultC_neg h0
    rw [q1] at d4
    rw [hdec] at hC
    have hC1 := Lib.hid (hC w hA (fun _ _ => rfl) rfl)
    have HP : Hid (F p) := hp
    clear hA hF hl hfa h0 hdec q1 q2 d5 f5 har hC d2
    go_enter Try.func42, Try.ntmps42
    go_wp2_with (go_at_call 47; go_loud ((refine hC1.out.mono ?_; rintro e1 w2 ⟨rfl, hP2, hK2⟩; obtain ⟨mn2, ms2, φ2, ρ2, hA2, hF2, hl2⟩ := hP2; have k2 : w2.cell? ⟨p, 2, none⟩ = some (.int .i64 (D.steps : Int)) := hA2.row.cell 2; have g2 := hA2.row.frozen 2; have HE := Lib.hid (change_end (D := { D with steps := D.steps + 1 }) HP.out hA2 hF2 hl2 (KeptF.refl F w) rfl hK2 rfl); have hs := hst'.out; clear hA2 hF2 hl2 hK2)))
    go_ret
    rw [hR.out]
    exact ⟨rfl, HE.out⟩
  · -- the fault comes
    have hff := hfa (by omega)
    have hR : Hid (Vf.chgR D f n k l = (D.fault, { D with armed := -1, down := decide (D.fault = 15) })) := by
      show _ = _
      unfold Vf.chgR Vf.done
      rw [if_pos h0, if_pos (by simp; omega)]
    have q1 : Vf.faultC D = D.fault := by unfold Vf.faultC; rw [if_neg (by omega)]
    have q2 : Vf.leftC D = 0 := by unfold Vf.leftC; rw [if_neg (by omega)]; exact h0
    have hrow := hA.row
    unfold prC at hrow
    rw [q1] at d4 hrow
    rw [q2] at d5
    have e4 : (D.fault != 0) = true := by simp; omega
    have hFl := Lib.hid (failP_row w p _ _ _ _ _ D.fault hrow)
    have hT : Hid (PA (((w.setCell ⟨p, 3, none⟩ (.bool (decide (D.fault = 15)))).setCell ⟨p, 5, none⟩ (.int .i64 0)).setCell ⟨p, 4, none⟩ (.int .i64 0)) p { D with armed := -1, down := decide (D.fault = 15) } F) := by
      refine PA.turned hA hF hl ?_ (fun k hk => ?_) ?_ rfl rfl rfl
      · exact ((hA.row.set 3 _).set 5 _).set 4 _
      · rw [heap_other _ _ _ _ _ hk, heap_other _ _ _ _ _ hk, heap_other _ _ _ _ _ hk]
      · rw [setCell_size, setCell_size, setCell_size]
    have hK : Hid (KeptF F w (((w.setCell ⟨p, 3, none⟩ (.bool (decide (D.fault = 15)))).setCell ⟨p, 5, none⟩ (.int .i64 0)).setCell ⟨p, 4, none⟩ (.int .i64 0))) := (((KeptF.refl F w).set p 3 hp _).set p 5 hp _).set p 4 hp _
    have H : Hid (PA w p D F) := ⟨mn, ms, φ, ρ, hA, hF, hl⟩
    clear hA hF hl hfa h0 q1 q2 f5 har hC d2 hff hrow
    generalize D.fault = fl at *
    go_enter Try.func42, Try.ntmps42
    go_wp2_with (go_at_call 65; refine hFl.out.mono ?_; rintro e1 w2 ⟨rfl, rfl⟩)
    go_ret
    rw [hR.out]
    exact ⟨rfl, hT.out.more (fun k hk => .inl hk) (FNew.lt H.out hK.out.size), hK.out⟩
  · -- armed, and it doesn't come yet
    have hff := hfa (by omega)
    have hR : Hid (Vf.chgR D f n k l = (0, Vf.put { D with armed := D.armed - 1, steps := D.steps + 1 } f n k l)) := by
      show _ = _
      have hdn : Vf.done D = (0, { D with armed := D.armed - 1, steps := D.steps + 1 }) := by
        unfold Vf.done
        rw [if_neg (show ¬ D.armed = 0 by omega), if_pos h0]
      unfold Vf.chgR
      rw [hdn, if_neg (by simp)]
    have hdec : Vf.dec D = { D with armed := D.armed - 1 } := by
      unfold Vf.dec
      rw [if_pos h0]
    have q1 : Vf.faultC D = D.fault := by unfold Vf.faultC; rw [if_neg (by omega)]
    have q2 : Vf.leftC D = D.armed := by unfold Vf.leftC; rw [if_neg (by omega)]
    rw [q1] at d4
    rw [q2] at d5
    have e4 : (D.fault != 0) = true := by simp; omega
    have e5 : (D.armed == 0) = false := by simp; omega
    have hw1 : PrA (w.setCell ⟨p, 5, none⟩ (.int .i64 (D.armed - 1))) p mn ms φ ρ { D with armed := D.armed - 1 } := by
      refine hA.turn ?_ (fun k hk => heap_other _ _ _ _ _ hk) rfl rfl rfl
      have h := hA.row.set 5 (.int .i64 (D.armed - 1))
      have e1 : prC mn ms { D with armed := D.armed - 1 } = (prC mn ms D).setIfInBounds 5 (.int .i64 (D.armed - 1)) := by
        unfold prC Vf.faultC Vf.leftC
        simp only [if_neg (show ¬ D.armed - 1 < 0 by omega), if_neg (show ¬ D.armed < 0 by omega)]
        rfl
      rw [e1]
      exact h
    rw [hdec] at hC
    have hC1 := Lib.hid (hC _ hw1 (fun k hk => heap_other _ _ _ _ _ hk) (setCell_size _ _ _))
    have HK1 : Hid (KeptF F w (w.setCell ⟨p, 5, none⟩ (.int .i64 (D.armed - 1)))) := (KeptF.refl F w).set p 5 hp _
    have HS1 : Hid ((w.setCell ⟨p, 5, none⟩ (.int .i64 (D.armed - 1))).heap.size = w.heap.size) := setCell_size _ _ _
    have HP : Hid (F p) := hp
    have hw : IntKind.i64.wrap (D.armed - 1) = D.armed - 1 := IntWalk.i64_in _ (by omega)
    have b1 : 0 ≤ D.armed - 1 ∧ D.armed - 1 ≤ 9223372036854775807 := by omega
    clear hA hF hl hfa h0 hdec q1 q2 har hC d2 hff hw1
    obtain ⟨ar, har⟩ : ∃ ar, ar = D.armed := ⟨_, rfl⟩
    rw [← har] at d5 e5 hC1 HK1 HS1 hR hw b1
    clear har
    generalize D.fault = fl at *
    go_enter Try.func42, Try.ntmps42
    go_wp2_with (go_at_call 47; go_loud ((refine hC1.out.mono ?_; rintro e1 w2 ⟨rfl, hP2, hK2⟩; obtain ⟨mn2, ms2, φ2, ρ2, hA2, hF2, hl2⟩ := hP2; have k2 : w2.cell? ⟨p, 2, none⟩ = some (.int .i64 (D.steps : Int)) := hA2.row.cell 2; have g2 := hA2.row.frozen 2; have HE := Lib.hid (change_end (D := { D with armed := ar - 1, steps := D.steps + 1, fault := fl }) HP.out hA2 hF2 hl2 HK1.out HS1.out hK2 rfl); have hs := hst'.out; clear hA2 hF2 hl2 hK2)))
    go_ret
    rw [hR.out]
    exact ⟨rfl, HE.out⟩

set_option maxRecDepth 100000 in
set_option maxHeartbeats 2000000 in
theorem change_file (w : World) (p mn ms : Nat) (φ : Nat → Nat) (ρ : Nat → Value) (D : Vf.Dk) (F : Nat → Prop) (a b : Addr) (f : List Vf.Fl) (n k : List Vf.Lk) (l : Nat)
    (hA : PrA w p mn ms φ ρ D) (hF : ∀ k, PFoot p mn ms φ ρ D k → F k) (hl : ∀ k, F k → k < w.heap.size) (hok : Vf.Fit D)
    (hC : ∀ w1, PrA w1 p mn ms φ ρ (Vf.dec D) → (∀ k, k ≠ p → w1.heap[k]? = w.heap[k]?) → w1.heap.size = w.heap.size → Calls Try.prog 66 #[.pointer (some a), .pointer (some b)] w1 (ClPost w1 p F (Vf.put (Vf.dec D) f n k l))) :
    Calls Try.prog 42 #[.pointer (some ⟨p, 0, none⟩), .func (.func 66) #[] #[.pointer (some a), .pointer (some b)]] w (PPost w p F (Vf.chgR D f n k l)) := by
  obtain ⟨har, hfa, hst⟩ := hok
  have hp := PA.p_in hA hF
  have d2 : w.cell? ⟨p, 2, none⟩ = some (.int .i64 (D.steps : Int)) := hA.row.cell 2
  have d4 : w.cell? ⟨p, 4, none⟩ = some (.int .i64 (Vf.faultC D)) := hA.row.cell 4
  have d5 : w.cell? ⟨p, 5, none⟩ = some (.int .i64 (Vf.leftC D)) := hA.row.cell 5
  have f5 := hA.row.frozen 5
  have hst' : Hid (D.steps ≤ 4611686018427387904) := hst
  rcases (show D.armed = -1 ∨ D.armed = 0 ∨ 0 < D.armed by omega) with h0 | h0 | h0
  · -- not armed
    have hR : Hid (Vf.chgR D f n k l = (0, Vf.put { D with steps := D.steps + 1 } f n k l)) := by
      show _ = _
      unfold Vf.chgR Vf.done
      simp only [h0]
      rfl
    have hdec : Vf.dec D = D := by
      unfold Vf.dec
      rw [if_neg (by omega)]
    obtain ⟨q1, q2⟩ := faultC_neg h0
    rw [q1] at d4
    rw [hdec] at hC
    have hC1 := Lib.hid (hC w hA (fun _ _ => rfl) rfl)
    have HP : Hid (F p) := hp
    clear hA hF hl hfa h0 hdec q1 q2 d5 f5 har hC d2
    go_enter Try.func42, Try.ntmps42
    go_wp2_with (go_at_call 66; go_loud ((refine hC1.out.mono ?_; rintro e1 w2 ⟨rfl, hP2, hK2⟩; obtain ⟨mn2, ms2, φ2, ρ2, hA2, hF2, hl2⟩ := hP2; have k2 : w2.cell? ⟨p, 2, none⟩ = some (.int .i64 (D.steps : Int)) := hA2.row.cell 2; have g2 := hA2.row.frozen 2; have HE := Lib.hid (change_end (D := { D with steps := D.steps + 1 }) HP.out hA2 hF2 hl2 (KeptF.refl F w) rfl hK2 rfl); have hs := hst'.out; clear hA2 hF2 hl2 hK2)))
    go_ret
    rw [hR.out]
    exact ⟨rfl, HE.out⟩
  · -- the fault comes
    have hff := hfa (by omega)
    have hR : Hid (Vf.chgR D f n k l = (D.fault, { D with armed := -1, down := decide (D.fault = 15) })) := by
      show _ = _
      unfold Vf.chgR Vf.done
      rw [if_pos h0, if_pos (by simp; omega)]
    have q1 : Vf.faultC D = D.fault := by unfold Vf.faultC; rw [if_neg (by omega)]
    have q2 : Vf.leftC D = 0 := by unfold Vf.leftC; rw [if_neg (by omega)]; exact h0
    have hrow := hA.row
    unfold prC at hrow
    rw [q1] at d4 hrow
    rw [q2] at d5
    have e4 : (D.fault != 0) = true := by simp; omega
    have hFl := Lib.hid (failP_row w p _ _ _ _ _ D.fault hrow)
    have hT : Hid (PA (((w.setCell ⟨p, 3, none⟩ (.bool (decide (D.fault = 15)))).setCell ⟨p, 5, none⟩ (.int .i64 0)).setCell ⟨p, 4, none⟩ (.int .i64 0)) p { D with armed := -1, down := decide (D.fault = 15) } F) := by
      refine PA.turned hA hF hl ?_ (fun k hk => ?_) ?_ rfl rfl rfl
      · exact ((hA.row.set 3 _).set 5 _).set 4 _
      · rw [heap_other _ _ _ _ _ hk, heap_other _ _ _ _ _ hk, heap_other _ _ _ _ _ hk]
      · rw [setCell_size, setCell_size, setCell_size]
    have hK : Hid (KeptF F w (((w.setCell ⟨p, 3, none⟩ (.bool (decide (D.fault = 15)))).setCell ⟨p, 5, none⟩ (.int .i64 0)).setCell ⟨p, 4, none⟩ (.int .i64 0))) := (((KeptF.refl F w).set p 3 hp _).set p 5 hp _).set p 4 hp _
    have H : Hid (PA w p D F) := ⟨mn, ms, φ, ρ, hA, hF, hl⟩
    clear hA hF hl hfa h0 q1 q2 f5 har hC d2 hff hrow
    generalize D.fault = fl at *
    go_enter Try.func42, Try.ntmps42
    go_wp2_with (go_at_call 65; refine hFl.out.mono ?_; rintro e1 w2 ⟨rfl, rfl⟩)
    go_ret
    rw [hR.out]
    exact ⟨rfl, hT.out.more (fun k hk => .inl hk) (FNew.lt H.out hK.out.size), hK.out⟩
  · -- armed, and it doesn't come yet
    have hff := hfa (by omega)
    have hR : Hid (Vf.chgR D f n k l = (0, Vf.put { D with armed := D.armed - 1, steps := D.steps + 1 } f n k l)) := by
      show _ = _
      have hdn : Vf.done D = (0, { D with armed := D.armed - 1, steps := D.steps + 1 }) := by
        unfold Vf.done
        rw [if_neg (show ¬ D.armed = 0 by omega), if_pos h0]
      unfold Vf.chgR
      rw [hdn, if_neg (by simp)]
    have hdec : Vf.dec D = { D with armed := D.armed - 1 } := by
      unfold Vf.dec
      rw [if_pos h0]
    have q1 : Vf.faultC D = D.fault := by unfold Vf.faultC; rw [if_neg (by omega)]
    have q2 : Vf.leftC D = D.armed := by unfold Vf.leftC; rw [if_neg (by omega)]
    rw [q1] at d4
    rw [q2] at d5
    have e4 : (D.fault != 0) = true := by simp; omega
    have e5 : (D.armed == 0) = false := by simp; omega
    have hw1 : PrA (w.setCell ⟨p, 5, none⟩ (.int .i64 (D.armed - 1))) p mn ms φ ρ { D with armed := D.armed - 1 } := by
      refine hA.turn ?_ (fun k hk => heap_other _ _ _ _ _ hk) rfl rfl rfl
      have h := hA.row.set 5 (.int .i64 (D.armed - 1))
      have e1 : prC mn ms { D with armed := D.armed - 1 } = (prC mn ms D).setIfInBounds 5 (.int .i64 (D.armed - 1)) := by
        unfold prC Vf.faultC Vf.leftC
        simp only [if_neg (show ¬ D.armed - 1 < 0 by omega), if_neg (show ¬ D.armed < 0 by omega)]
        rfl
      rw [e1]
      exact h
    rw [hdec] at hC
    have hC1 := Lib.hid (hC _ hw1 (fun k hk => heap_other _ _ _ _ _ hk) (setCell_size _ _ _))
    have HK1 : Hid (KeptF F w (w.setCell ⟨p, 5, none⟩ (.int .i64 (D.armed - 1)))) := (KeptF.refl F w).set p 5 hp _
    have HS1 : Hid ((w.setCell ⟨p, 5, none⟩ (.int .i64 (D.armed - 1))).heap.size = w.heap.size) := setCell_size _ _ _
    have HP : Hid (F p) := hp
    have hw : IntKind.i64.wrap (D.armed - 1) = D.armed - 1 := IntWalk.i64_in _ (by omega)
    have b1 : 0 ≤ D.armed - 1 ∧ D.armed - 1 ≤ 9223372036854775807 := by omega
    clear hA hF hl hfa h0 hdec q1 q2 har hC d2 hff hw1
    obtain ⟨ar, har⟩ : ∃ ar, ar = D.armed := ⟨_, rfl⟩
    rw [← har] at d5 e5 hC1 HK1 HS1 hR hw b1
    clear har
    generalize D.fault = fl at *
    go_enter Try.func42, Try.ntmps42
    go_wp2_with (go_at_call 66; go_loud ((refine hC1.out.mono ?_; rintro e1 w2 ⟨rfl, hP2, hK2⟩; obtain ⟨mn2, ms2, φ2, ρ2, hA2, hF2, hl2⟩ := hP2; have k2 : w2.cell? ⟨p, 2, none⟩ = some (.int .i64 (D.steps : Int)) := hA2.row.cell 2; have g2 := hA2.row.frozen 2; have HE := Lib.hid (change_end (D := { D with armed := ar - 1, steps := D.steps + 1, fault := fl }) HP.out hA2 hF2 hl2 HK1.out HS1.out hK2 rfl); have hs := hst'.out; clear hA2 hF2 hl2 hK2)))
    go_ret
    rw [hR.out]
    exact ⟨rfl, HE.out⟩
end Go.Proofs.Ytdohenbicepicaa
