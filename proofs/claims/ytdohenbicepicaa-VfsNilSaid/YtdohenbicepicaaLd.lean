/-
  A nil disk refuses: the walk of the statement.
-/
import Derived.Test.YtdohenbicepicaaLb
namespace Go.Proofs.Ytdohenbicepicaa
open Go.RowKit Go.Maps

set_option maxRecDepth 100000 in
set_option maxHeartbeats 4000000 in
theorem vfsNil_walk (p : ByteArray) (n : Int) (w : World) (hp0 : p.size ≤ 140737488351232) : Calls Try.prog 7 #[.string p, .int .i64 n] w fun e w' => e = .returned (.bool true) ∧ Below w.heap.size w w' := by
  have hp : p.size ≤ 9223372036854775807 := by omega
  clear hp0
  have hee : ((⟨#[]⟩ : ByteArray).toList == (⟨#[]⟩ : ByteArray).toList) = true := by simp
  have HB0 : Hid (Below w.heap.size w w) := Below.refl _ _
  go_enter Try.func7, Try.ntmps7
  go_wp2_with (first | (go_at_call 19; go_loud ((refine (readN _ p).mono ?_; rintro e1 w1 ⟨rfl, hb1⟩; have HB1 : Hid (Below w.heap.size w w1) := HB0.out.trans (hb1.mono HB0.out.size); clear hb1))) | (go_at_call 23; go_loud ((refine (calmP_nil _).mono ?_; rintro e1 wx ⟨rfl, rfl⟩))) | (go_at_call 9; go_loud ((refine (awake_any _).mono ?_; rintro e2 w2 ⟨rfl, hb2⟩; have HB2 : Hid (Below w.heap.size w w2) := HB1.out.trans (hb2.mono HB1.out.size); clear hb2))) | (go_at_call 13; go_loud ((refine (createN _ p).mono ?_; rintro e3 w3 ⟨rfl, hb3⟩; have HB3 : Hid (Below w.heap.size w w3) := HB2.out.trans (hb3.mono HB2.out.size); clear hb3))) | (go_at_call 14; go_loud ((refine (appendN _ p p).mono ?_; rintro e4 w4 ⟨rfl, hb4⟩; have HB4 : Hid (Below w.heap.size w w4) := HB3.out.trans (hb4.mono HB3.out.size); clear hb4))) | (go_at_call 15; go_loud ((refine (syncN _ p).mono ?_; rintro e5 w5 ⟨rfl, hb5⟩; have HB5 : Hid (Below w.heap.size w w5) := HB4.out.trans (hb5.mono HB4.out.size); clear hb5))) | (go_at_call 17; go_loud ((refine (renameN _ p p hp).mono ?_; rintro e6 w6 ⟨rfl, hb6⟩; have HB6 : Hid (Below w.heap.size w w6) := HB5.out.trans (hb6.mono HB5.out.size); clear hb6))) | (go_at_call 24; go_loud ((refine (removeN _ p).mono ?_; rintro e7 w7 ⟨rfl, hb7⟩; have HB7 : Hid (Below w.heap.size w w7) := HB6.out.trans (hb7.mono HB6.out.size); clear hb7))) | (go_at_call 16; go_loud ((refine (syncDirN _).mono ?_; rintro e8 w8 ⟨rfl, hb8⟩; have HB8 : Hid (Below w.heap.size w w8) := HB7.out.trans (hb8.mono HB7.out.size); clear hb8))) | (go_at_call 18; go_loud ((refine (restartN _ n).mono ?_; rintro e9 w9 ⟨rfl, hb9⟩; have HB9 : Hid (Below w.heap.size w w9) := HB8.out.trans (hb9.mono HB8.out.size); clear hb9))) | (go_at_call 20; go_loud ((refine (armN _ n 14).mono ?_; rintro e10 w10 ⟨rfl, hb10⟩; have HB10 : Hid (Below w.heap.size w w10) := HB9.out.trans (hb10.mono HB9.out.size); clear hb10))) | (go_at_call 22; go_loud ((refine (listN _).mono ?_; rintro e11 w11 ⟨rfl, hb11⟩; have HB11 : Hid (Below w.heap.size w w11) := HB10.out.trans (hb11.mono HB10.out.size); clear hb11))) | (go_at_call 25; go_loud ((refine (stepsN _).mono ?_; rintro e12 w12 ⟨rfl, hb12⟩; have HB12 : Hid (Below w.heap.size w w12) := HB11.out.trans (hb12.mono HB11.out.size); clear hb12))) | (go_at_call 21; go_loud ((refine (downN _).mono ?_; rintro e13 w13 ⟨rfl, hb13⟩; have HB13 : Hid (Below w.heap.size w w13) := HB12.out.trans (hb13.mono HB12.out.size); clear hb13))))
  go_ret
  exact ⟨rfl, HB13.out⟩
end Go.Proofs.Ytdohenbicepicaa
