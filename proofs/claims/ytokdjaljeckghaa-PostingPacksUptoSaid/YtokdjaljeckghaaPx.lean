/-
  All lists of postings are packed as the document says, or refused: the walk of the statement.
-/
import Derived.Test.YtokdjaljeckghaaPw
import Derived.Test.YtokdjaljeckghaaPs
namespace Go.Proofs.Ytokdjaljeckghaa
open Go.RowKit
set_option maxRecDepth 100000 in
set_option maxHeartbeats 4000000 in
theorem packs14_walk (w : World) (F : Nat → Prop) (v : Value) (d : List Pt.Po) (h : PoS F w v d) (h1 : d.length ≤ 1048576) (h2 : (Pt.plcs d).length ≤ 1048576) (h3 : ∀ p ∈ d, p.ats.length ≤ 1048576) :
    Calls Try.prog 3 #[v] w fun e w' => e = .returned (.bool true) ∧ Below w.heap.size w w' := by
  have haw := Lib.hid (fun w => awake14_any w)
  have hcp := Lib.hid (copyR_any w F v d h (by omega) (fun p hp => by have := h3 p hp; omega))
  have hpr := Lib.hid (fun (wx : World) (hb : Below w.heap.size w wx) => packR14_any wx F v d (h.below hb) (by omega))
  have hcr := Lib.hid (fun (wx : World) (hb : Below w.heap.size w wx) => checkR_any wx F v d (h.below hb))
  have hpp := Lib.hid (fun (wx : World) (u : Value) (hu : PoS (fun g => w.heap.size ≤ g) wx u d) => pack_any wx _ u d hu (by omega))
  have hcc := Lib.hid (fun (wx : World) (u : Value) (hu : PoS (fun g => w.heap.size ≤ g) wx u d) => check_any wx _ u d hu)
  have hsm := Lib.hid (fun (wx : World) (u : Value) (hu : PoS (fun g => w.heap.size ≤ g) wx u d) (hb : Below w.heap.size w wx) => sameP_any wx _ F u v d d hu (h.below hb))
  simp only [decide_true] at hsm
  obtain ⟨a, cap, hv, _⟩ := id h
  obtain ⟨n, hn⟩ : ∃ n, n = d.length := ⟨_, rfl⟩
  rw [← hn] at hv
  generalize (Pt.pack d).2 = x at *
  obtain ⟨T, hT⟩ : ∃ T : ByteArray, T = ⟨(Pt.pack d).1.toArray⟩ := ⟨_, rfl⟩
  rw [← hT] at hpr hpp
  have hTT : (T.toList == T.toList) = true := by simp
  generalize Pt.chk (-1) d = c at *
  clear hn hT h
  subst hv
  go_enter Try.func3, Try.ntmps3
  go_wp2_with (first
    | (go_at_call 10; refine hcp.out.mono ?_; rintro e1 w1 ⟨v1, vs1, rfl, hO1, hb1⟩; have HB1 := Lib.hid hb1; have HP1 := Lib.hid hO1.po; obtain ⟨a1, c1, f1, _⟩ := hO1.po; obtain ⟨n1, hn1⟩ : ∃ n1, n1 = d.length := ⟨_, rfl⟩; rw [← hn1] at f1; clear hO1 hb1 hn1; subst f1)
    | (go_at_call 11; refine (hpp.out _ _ HP1.out).mono ?_; rintro e1 w2 ⟨rfl, hb2⟩; have HB2 := Lib.hid (HB1.out.trans (hb2.mono HB1.out.size)); have HP2 := Lib.hid (HP1.out.below hb2); clear hb2)
    | (go_at_call 12; refine (hpr.out _ HB2.out).mono ?_; rintro e1 w3 ⟨rfl, hb3⟩; have HB3 := Lib.hid (HB2.out.trans (hb3.mono HB2.out.size)); have HP3 := Lib.hid (HP2.out.below hb3); clear hb3)
    | (go_at_call 13; refine (haw.out _).mono ?_; rintro e1 w4 ⟨rfl, hb4⟩; have HB4 := Lib.hid (HB3.out.trans (hb4.mono HB3.out.size)); have HP4 := Lib.hid (HP3.out.below hb4); clear hb4)
    | (go_at_call 14; refine (hcc.out _ _ HP4.out).mono ?_; rintro e1 w5 ⟨rfl, hb5⟩; have HB5 := Lib.hid (HB4.out.trans (hb5.mono HB4.out.size)); have HP5 := Lib.hid (HP4.out.below hb5); clear hb5)
    | (go_at_call 15; refine (hcr.out _ HB5.out).mono ?_; rintro e1 w6 ⟨rfl, hb6⟩; have HB6 := Lib.hid (HB5.out.trans (hb6.mono HB5.out.size)); have HP6 := Lib.hid (HP5.out.below hb6); clear hb6)
    | (go_at_call 16; refine (hsm.out _ _ HP6.out HB6.out).mono ?_; rintro e1 w7 ⟨rfl, hb7⟩; have HB7 := Lib.hid (HB6.out.trans (hb7.mono HB6.out.size)); clear hb7))
  go_ret
  exact ⟨rfl, HB7.out⟩
end Go.Proofs.Ytokdjaljeckghaa
