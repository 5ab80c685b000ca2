/-
  A step of the two disks: create append sync rename remove syncDir arm restart (made by gen_xdc.py).
-/
import Derived.Test.YtdohenbicepicaaDc
import Derived.Deep.RegionHeld3
namespace Go.Proofs.Ytdohenbicepicaa
open Go.RowKit Go.Maps
set_option linter.unusedVariables false

set_option maxRecDepth 100000 in
set_option maxHeartbeats 4000000 in
theorem does_create (w : World) (p b : Nat) (D : Vf.Dk) (c : Nat) (F G : Nat → Prop) (h : Pair w p b D c F G) (hc : c ≤ 1048000) (n : Int) (P Q : ByteArray) (hP : P.size ≤ 1048576) (hQ : Q.size ≤ 1048576) (hn : -9223372036854775808 ≤ n ∧ n ≤ 9223372036854775807) :
    Calls Try.prog 11 #[.pointer (some ⟨p, 0, none⟩), .pointer (some ⟨b, 0, none⟩), stepV 1 n P Q] w (DoesPost w p b c F G) := by
  have H0 := Lib.hid (h.ph (stepO 1 n P Q))
  obtain ⟨s0, s1, s2, s3⟩ := step_cells w 1 n P Q
  have ok := h.ok
  have ok2 : Vf.OkF (Vf.create D P).2 (c + 1) 1048576 := ok.create P
  have HPost : Hid (∀ w', Ph (w.alloc (stepO 1 n P Q)) p b (Vf.create D P).2 (Vf.create D P).2 F G w' → PairPost w p b (Vf.create D P).2 (c + 1) F G w') := fun w' hq => hq.post ok2
  have hF : ∀ k, F k ∨ G k → k < w.heap.size := fun k hk => hk.elim (h.pa.lt k) (h.ra.lt k)
  have hxl : w.heap.size < (w.alloc (stepO 1 n P Q)).heap.size := by simp
  have HC : Hid (∀ D1 D2 wx, Ph (w.alloc (stepO 1 n P Q)) p b D1 D2 F G wx → wx.cell? ⟨w.heap.size, 1, none⟩ = some (.string P) ∧ wx.cell? ⟨w.heap.size, 2, none⟩ = some (.string Q) ∧ wx.cell? ⟨w.heap.size, 3, none⟩ = some (.int .i64 n)) := fun D1 D2 wx hq => ⟨hq.cell hxl hF s1, hq.cell hxl hF s2, hq.cell hxl hF s3⟩
  have hCP : Hid (∀ D2 wx, Ph (w.alloc (stepO 1 n P Q)) p b D D2 F G wx → Calls Try.prog 13 #[.pointer (some ⟨p, 0, none⟩), .string P] wx fun e w' => e = .returned (.int .i64 (Vf.create D P).1) ∧ Ph (w.alloc (stepO 1 n P Q)) p b (Vf.create D P).2 D2 F G w') := fun D2 wx hq => hq.progGo fun wx F' hA => createP_any wx p D F' c 1048576 P hA h.ok.1.ok (by omega) (by omega)
  have hCR : Hid (∀ D1 wx, Ph (w.alloc (stepO 1 n P Q)) p b D1 D F G wx → Calls Try.prog 27 #[.pointer (some ⟨b, 0, none⟩), .string P] wx fun e w' => e = .returned (.int .i64 (Vf.create D P).1) ∧ Ph (w.alloc (stepO 1 n P Q)) p b D1 (Vf.create D P).2 F G w') := fun D1 wx hq => hq.refGo fun wx G' hA => RA.create hA h.ok (by omega) P
  clear ok ok2 hF hxl hn hP hQ
  generalize Vf.create D P = r at *
  obtain ⟨v, D'⟩ := r
  unfold stepV
  go_enter Try.func11, Try.ntmps11
  have hw : w.alloc (.cells #[.int .i64 1, .string P, .string Q, .int .i64 n] 29) = w.alloc (stepO 1 n P Q) := rfl
  generalize w.alloc (stepO 1 n P Q) = wb at *
  go_wp2_with fail
  have d1 : wb.drew.cell? ⟨w.heap.size, 1, none⟩ = some (.string P) := s1
  have d2 : wb.drew.cell? ⟨w.heap.size, 2, none⟩ = some (.string Q) := s2
  have d3 : wb.drew.cell? ⟨w.heap.size, 3, none⟩ = some (.int .i64 n) := s3
  have HQ := Lib.hid H0.out.drew
  go_region_held3 (fun wx => wx.cell? ⟨w.heap.size, 1, none⟩ = some (.string P) ∧ wx.cell? ⟨w.heap.size, 2, none⟩ = some (.string Q) ∧ wx.cell? ⟨w.heap.size, 3, none⟩ = some (.int .i64 n)) (first | exact ⟨d1, d2, d3⟩ | exact HC.out _ _ _ HQ.out) (first
    | (go_at_call 13; refine (hCP.out _ _ HQ.out).mono ?_; rintro e1 w1 ⟨rfl, hq⟩; have HQ := Lib.hid hq; clear hq)
    | (go_at_call 27; refine (hCR.out _ _ HQ.out).mono ?_; rintro e1 w1 ⟨rfl, hq⟩; have HQ := Lib.hid hq; clear hq))
  all_goals
    go_wp2_with fail
    go_ret
    exact ⟨rfl, _, HPost.out _ HQ.out⟩

set_option maxRecDepth 100000 in
set_option maxHeartbeats 4000000 in
theorem does_append (w : World) (p b : Nat) (D : Vf.Dk) (c : Nat) (F G : Nat → Prop) (h : Pair w p b D c F G) (hc : c ≤ 1048000) (n : Int) (P Q : ByteArray) (hP : P.size ≤ 1048576) (hQ : Q.size ≤ 1048576) (hn : -9223372036854775808 ≤ n ∧ n ≤ 9223372036854775807) :
    Calls Try.prog 11 #[.pointer (some ⟨p, 0, none⟩), .pointer (some ⟨b, 0, none⟩), stepV 2 n P Q] w (DoesPost w p b c F G) := by
  have H0 := Lib.hid (h.ph (stepO 2 n P Q))
  obtain ⟨s0, s1, s2, s3⟩ := step_cells w 2 n P Q
  have ok := h.ok
  have ok2 : Vf.OkF (Vf.append D P Q).2 (c + 1) 1048576 := ok.change P Q false hQ
  have HPost : Hid (∀ w', Ph (w.alloc (stepO 2 n P Q)) p b (Vf.append D P Q).2 (Vf.append D P Q).2 F G w' → PairPost w p b (Vf.append D P Q).2 (c + 1) F G w') := fun w' hq => hq.post ok2
  have hF : ∀ k, F k ∨ G k → k < w.heap.size := fun k hk => hk.elim (h.pa.lt k) (h.ra.lt k)
  have hxl : w.heap.size < (w.alloc (stepO 2 n P Q)).heap.size := by simp
  have HC : Hid (∀ D1 D2 wx, Ph (w.alloc (stepO 2 n P Q)) p b D1 D2 F G wx → wx.cell? ⟨w.heap.size, 1, none⟩ = some (.string P) ∧ wx.cell? ⟨w.heap.size, 2, none⟩ = some (.string Q) ∧ wx.cell? ⟨w.heap.size, 3, none⟩ = some (.int .i64 n)) := fun D1 D2 wx hq => ⟨hq.cell hxl hF s1, hq.cell hxl hF s2, hq.cell hxl hF s3⟩
  have hCP : Hid (∀ D2 wx, Ph (w.alloc (stepO 2 n P Q)) p b D D2 F G wx → Calls Try.prog 14 #[.pointer (some ⟨p, 0, none⟩), .string P, .string Q] wx fun e w' => e = .returned (.int .i64 (Vf.append D P Q).1) ∧ Ph (w.alloc (stepO 2 n P Q)) p b (Vf.append D P Q).2 D2 F G w') := fun D2 wx hq => hq.progGo fun wx F' hA => appendP_any wx p D F' c 1048576 P Q hA h.ok.1.ok (by omega) (by omega) (by omega) (by omega)
  have hCR : Hid (∀ D1 wx, Ph (w.alloc (stepO 2 n P Q)) p b D1 D F G wx → Calls Try.prog 28 #[.pointer (some ⟨b, 0, none⟩), .string P, .string Q] wx fun e w' => e = .returned (.int .i64 (Vf.append D P Q).1) ∧ Ph (w.alloc (stepO 2 n P Q)) p b D1 (Vf.append D P Q).2 F G w') := fun D1 wx hq => hq.refGo fun wx G' hA => RA.append hA h.ok (by omega) P Q hQ
  clear ok ok2 hF hxl hn hP hQ
  generalize Vf.append D P Q = r at *
  obtain ⟨v, D'⟩ := r
  unfold stepV
  go_enter Try.func11, Try.ntmps11
  have hw : w.alloc (.cells #[.int .i64 2, .string P, .string Q, .int .i64 n] 29) = w.alloc (stepO 2 n P Q) := rfl
  generalize w.alloc (stepO 2 n P Q) = wb at *
  go_wp2_with fail
  have d1 : wb.drew.cell? ⟨w.heap.size, 1, none⟩ = some (.string P) := s1
  have d2 : wb.drew.cell? ⟨w.heap.size, 2, none⟩ = some (.string Q) := s2
  have d3 : wb.drew.cell? ⟨w.heap.size, 3, none⟩ = some (.int .i64 n) := s3
  have HQ := Lib.hid H0.out.drew
  go_region_held3 (fun wx => wx.cell? ⟨w.heap.size, 1, none⟩ = some (.string P) ∧ wx.cell? ⟨w.heap.size, 2, none⟩ = some (.string Q) ∧ wx.cell? ⟨w.heap.size, 3, none⟩ = some (.int .i64 n)) (first | exact ⟨d1, d2, d3⟩ | exact HC.out _ _ _ HQ.out) (first
    | (go_at_call 14; refine (hCP.out _ _ HQ.out).mono ?_; rintro e1 w1 ⟨rfl, hq⟩; have HQ := Lib.hid hq; clear hq)
    | (go_at_call 28; refine (hCR.out _ _ HQ.out).mono ?_; rintro e1 w1 ⟨rfl, hq⟩; have HQ := Lib.hid hq; clear hq))
  all_goals
    go_wp2_with fail
    go_ret
    exact ⟨rfl, _, HPost.out _ HQ.out⟩

set_option maxRecDepth 100000 in
set_option maxHeartbeats 4000000 in
theorem does_sync (w : World) (p b : Nat) (D : Vf.Dk) (c : Nat) (F G : Nat → Prop) (h : Pair w p b D c F G) (hc : c ≤ 1048000) (n : Int) (P Q : ByteArray) (hP : P.size ≤ 1048576) (hQ : Q.size ≤ 1048576) (hn : -9223372036854775808 ≤ n ∧ n ≤ 9223372036854775807) :
    Calls Try.prog 11 #[.pointer (some ⟨p, 0, none⟩), .pointer (some ⟨b, 0, none⟩), stepV 3 n P Q] w (DoesPost w p b c F G) := by
  have H0 := Lib.hid (h.ph (stepO 3 n P Q))
  obtain ⟨s0, s1, s2, s3⟩ := step_cells w 3 n P Q
  have ok := h.ok
  have ok2 : Vf.OkF (Vf.sync D P).2 (c + 1) 1048576 := ok.change P ByteArray.empty true (Nat.zero_le _)
  have HPost : Hid (∀ w', Ph (w.alloc (stepO 3 n P Q)) p b (Vf.sync D P).2 (Vf.sync D P).2 F G w' → PairPost w p b (Vf.sync D P).2 (c + 1) F G w') := fun w' hq => hq.post ok2
  have hF : ∀ k, F k ∨ G k → k < w.heap.size := fun k hk => hk.elim (h.pa.lt k) (h.ra.lt k)
  have hxl : w.heap.size < (w.alloc (stepO 3 n P Q)).heap.size := by simp
  have HC : Hid (∀ D1 D2 wx, Ph (w.alloc (stepO 3 n P Q)) p b D1 D2 F G wx → wx.cell? ⟨w.heap.size, 1, none⟩ = some (.string P) ∧ wx.cell? ⟨w.heap.size, 2, none⟩ = some (.string Q) ∧ wx.cell? ⟨w.heap.size, 3, none⟩ = some (.int .i64 n)) := fun D1 D2 wx hq => ⟨hq.cell hxl hF s1, hq.cell hxl hF s2, hq.cell hxl hF s3⟩
  have hCP : Hid (∀ D2 wx, Ph (w.alloc (stepO 3 n P Q)) p b D D2 F G wx → Calls Try.prog 15 #[.pointer (some ⟨p, 0, none⟩), .string P] wx fun e w' => e = .returned (.int .i64 (Vf.sync D P).1) ∧ Ph (w.alloc (stepO 3 n P Q)) p b (Vf.sync D P).2 D2 F G w') := fun D2 wx hq => hq.progGo fun wx F' hA => syncP_any wx p D F' c 1048576 P hA h.ok.1.ok (by omega) (by omega)
  have hCR : Hid (∀ D1 wx, Ph (w.alloc (stepO 3 n P Q)) p b D1 D F G wx → Calls Try.prog 29 #[.pointer (some ⟨b, 0, none⟩), .string P] wx fun e w' => e = .returned (.int .i64 (Vf.sync D P).1) ∧ Ph (w.alloc (stepO 3 n P Q)) p b D1 (Vf.sync D P).2 F G w') := fun D1 wx hq => hq.refGo fun wx G' hA => RA.sync hA h.ok (by omega) P
  clear ok ok2 hF hxl hn hP hQ
  generalize Vf.sync D P = r at *
  obtain ⟨v, D'⟩ := r
  unfold stepV
  go_enter Try.func11, Try.ntmps11
  have hw : w.alloc (.cells #[.int .i64 3, .string P, .string Q, .int .i64 n] 29) = w.alloc (stepO 3 n P Q) := rfl
  generalize w.alloc (stepO 3 n P Q) = wb at *
  go_wp2_with fail
  have d1 : wb.drew.cell? ⟨w.heap.size, 1, none⟩ = some (.string P) := s1
  have d2 : wb.drew.cell? ⟨w.heap.size, 2, none⟩ = some (.string Q) := s2
  have d3 : wb.drew.cell? ⟨w.heap.size, 3, none⟩ = some (.int .i64 n) := s3
  have HQ := Lib.hid H0.out.drew
  go_region_held3 (fun wx => wx.cell? ⟨w.heap.size, 1, none⟩ = some (.string P) ∧ wx.cell? ⟨w.heap.size, 2, none⟩ = some (.string Q) ∧ wx.cell? ⟨w.heap.size, 3, none⟩ = some (.int .i64 n)) (first | exact ⟨d1, d2, d3⟩ | exact HC.out _ _ _ HQ.out) (first
    | (go_at_call 15; refine (hCP.out _ _ HQ.out).mono ?_; rintro e1 w1 ⟨rfl, hq⟩; have HQ := Lib.hid hq; clear hq)
    | (go_at_call 29; refine (hCR.out _ _ HQ.out).mono ?_; rintro e1 w1 ⟨rfl, hq⟩; have HQ := Lib.hid hq; clear hq))
  all_goals
    go_wp2_with fail
    go_ret
    exact ⟨rfl, _, HPost.out _ HQ.out⟩

set_option maxRecDepth 100000 in
set_option maxHeartbeats 4000000 in
theorem does_rename (w : World) (p b : Nat) (D : Vf.Dk) (c : Nat) (F G : Nat → Prop) (h : Pair w p b D c F G) (hc : c ≤ 1048000) (n : Int) (P Q : ByteArray) (hP : P.size ≤ 1048576) (hQ : Q.size ≤ 1048576) (hn : -9223372036854775808 ≤ n ∧ n ≤ 9223372036854775807) :
    Calls Try.prog 11 #[.pointer (some ⟨p, 0, none⟩), .pointer (some ⟨b, 0, none⟩), stepV 4 n P Q] w (DoesPost w p b c F G) := by
  have H0 := Lib.hid (h.ph (stepO 4 n P Q))
  obtain ⟨s0, s1, s2, s3⟩ := step_cells w 4 n P Q
  have ok := h.ok
  have ok2 : Vf.OkF (Vf.rename D P Q).2 (c + 1) 1048576 := ok.rename P Q
  have HPost : Hid (∀ w', Ph (w.alloc (stepO 4 n P Q)) p b (Vf.rename D P Q).2 (Vf.rename D P Q).2 F G w' → PairPost w p b (Vf.rename D P Q).2 (c + 1) F G w') := fun w' hq => hq.post ok2
  have hF : ∀ k, F k ∨ G k → k < w.heap.size := fun k hk => hk.elim (h.pa.lt k) (h.ra.lt k)
  have hxl : w.heap.size < (w.alloc (stepO 4 n P Q)).heap.size := by simp
  have HC : Hid (∀ D1 D2 wx, Ph (w.alloc (stepO 4 n P Q)) p b D1 D2 F G wx → wx.cell? ⟨w.heap.size, 1, none⟩ = some (.string P) ∧ wx.cell? ⟨w.heap.size, 2, none⟩ = some (.string Q) ∧ wx.cell? ⟨w.heap.size, 3, none⟩ = some (.int .i64 n)) := fun D1 D2 wx hq => ⟨hq.cell hxl hF s1, hq.cell hxl hF s2, hq.cell hxl hF s3⟩
  have hCP : Hid (∀ D2 wx, Ph (w.alloc (stepO 4 n P Q)) p b D D2 F G wx → Calls Try.prog 17 #[.pointer (some ⟨p, 0, none⟩), .string P, .string Q] wx fun e w' => e = .returned (.int .i64 (Vf.rename D P Q).1) ∧ Ph (w.alloc (stepO 4 n P Q)) p b (Vf.rename D P Q).2 D2 F G w') := fun D2 wx hq => hq.progGo fun wx F' hA => renameP_any wx p D F' c 1048576 P Q hA h.ok.1.ok (by omega) (by omega) (by omega)
  have hCR : Hid (∀ D1 wx, Ph (w.alloc (stepO 4 n P Q)) p b D1 D F G wx → Calls Try.prog 30 #[.pointer (some ⟨b, 0, none⟩), .string P, .string Q] wx fun e w' => e = .returned (.int .i64 (Vf.rename D P Q).1) ∧ Ph (w.alloc (stepO 4 n P Q)) p b D1 (Vf.rename D P Q).2 F G w') := fun D1 wx hq => hq.refGo fun wx G' hA => RA.rename hA h.ok (by omega) P Q
  clear ok ok2 hF hxl hn hP hQ
  generalize Vf.rename D P Q = r at *
  obtain ⟨v, D'⟩ := r
  unfold stepV
  go_enter Try.func11, Try.ntmps11
  have hw : w.alloc (.cells #[.int .i64 4, .string P, .string Q, .int .i64 n] 29) = w.alloc (stepO 4 n P Q) := rfl
  generalize w.alloc (stepO 4 n P Q) = wb at *
  go_wp2_with fail
  have d1 : wb.drew.cell? ⟨w.heap.size, 1, none⟩ = some (.string P) := s1
  have d2 : wb.drew.cell? ⟨w.heap.size, 2, none⟩ = some (.string Q) := s2
  have d3 : wb.drew.cell? ⟨w.heap.size, 3, none⟩ = some (.int .i64 n) := s3
  have HQ := Lib.hid H0.out.drew
  go_region_held3 (fun wx => wx.cell? ⟨w.heap.size, 1, none⟩ = some (.string P) ∧ wx.cell? ⟨w.heap.size, 2, none⟩ = some (.string Q) ∧ wx.cell? ⟨w.heap.size, 3, none⟩ = some (.int .i64 n)) (first | exact ⟨d1, d2, d3⟩ | exact HC.out _ _ _ HQ.out) (first
    | (go_at_call 17; refine (hCP.out _ _ HQ.out).mono ?_; rintro e1 w1 ⟨rfl, hq⟩; have HQ := Lib.hid hq; clear hq)
    | (go_at_call 30; refine (hCR.out _ _ HQ.out).mono ?_; rintro e1 w1 ⟨rfl, hq⟩; have HQ := Lib.hid hq; clear hq))
  all_goals
    go_wp2_with fail
    go_ret
    exact ⟨rfl, _, HPost.out _ HQ.out⟩

set_option maxRecDepth 100000 in
set_option maxHeartbeats 4000000 in
theorem does_remove (w : World) (p b : Nat) (D : Vf.Dk) (c : Nat) (F G : Nat → Prop) (h : Pair w p b D c F G) (hc : c ≤ 1048000) (n : Int) (P Q : ByteArray) (hP : P.size ≤ 1048576) (hQ : Q.size ≤ 1048576) (hn : -9223372036854775808 ≤ n ∧ n ≤ 9223372036854775807) :
    Calls Try.prog 11 #[.pointer (some ⟨p, 0, none⟩), .pointer (some ⟨b, 0, none⟩), stepV 5 n P Q] w (DoesPost w p b c F G) := by
  have H0 := Lib.hid (h.ph (stepO 5 n P Q))
  obtain ⟨s0, s1, s2, s3⟩ := step_cells w 5 n P Q
  have ok := h.ok
  have ok2 : Vf.OkF (Vf.remove D P).2 (c + 1) 1048576 := ok.remove P
  have HPost : Hid (∀ w', Ph (w.alloc (stepO 5 n P Q)) p b (Vf.remove D P).2 (Vf.remove D P).2 F G w' → PairPost w p b (Vf.remove D P).2 (c + 1) F G w') := fun w' hq => hq.post ok2
  have hF : ∀ k, F k ∨ G k → k < w.heap.size := fun k hk => hk.elim (h.pa.lt k) (h.ra.lt k)
  have hxl : w.heap.size < (w.alloc (stepO 5 n P Q)).heap.size := by simp
  have HC : Hid (∀ D1 D2 wx, Ph (w.alloc (stepO 5 n P Q)) p b D1 D2 F G wx → wx.cell? ⟨w.heap.size, 1, none⟩ = some (.string P) ∧ wx.cell? ⟨w.heap.size, 2, none⟩ = some (.string Q) ∧ wx.cell? ⟨w.heap.size, 3, none⟩ = some (.int .i64 n)) := fun D1 D2 wx hq => ⟨hq.cell hxl hF s1, hq.cell hxl hF s2, hq.cell hxl hF s3⟩
  have hCP : Hid (∀ D2 wx, Ph (w.alloc (stepO 5 n P Q)) p b D D2 F G wx → Calls Try.prog 24 #[.pointer (some ⟨p, 0, none⟩), .string P] wx fun e w' => e = .returned (.int .i64 (Vf.remove D P).1) ∧ Ph (w.alloc (stepO 5 n P Q)) p b (Vf.remove D P).2 D2 F G w') := fun D2 wx hq => hq.progGo fun wx F' hA => removeP_any wx p D F' c 1048576 P hA h.ok.1.ok (by omega) (by omega)
  have hCR : Hid (∀ D1 wx, Ph (w.alloc (stepO 5 n P Q)) p b D1 D F G wx → Calls Try.prog 31 #[.pointer (some ⟨b, 0, none⟩), .string P] wx fun e w' => e = .returned (.int .i64 (Vf.remove D P).1) ∧ Ph (w.alloc (stepO 5 n P Q)) p b D1 (Vf.remove D P).2 F G w') := fun D1 wx hq => hq.refGo fun wx G' hA => RA.remove hA h.ok (by omega) P
  clear ok ok2 hF hxl hn hP hQ
  generalize Vf.remove D P = r at *
  obtain ⟨v, D'⟩ := r
  unfold stepV
  go_enter Try.func11, Try.ntmps11
  have hw : w.alloc (.cells #[.int .i64 5, .string P, .string Q, .int .i64 n] 29) = w.alloc (stepO 5 n P Q) := rfl
  generalize w.alloc (stepO 5 n P Q) = wb at *
  go_wp2_with fail
  have d1 : wb.drew.cell? ⟨w.heap.size, 1, none⟩ = some (.string P) := s1
  have d2 : wb.drew.cell? ⟨w.heap.size, 2, none⟩ = some (.string Q) := s2
  have d3 : wb.drew.cell? ⟨w.heap.size, 3, none⟩ = some (.int .i64 n) := s3
  have HQ := Lib.hid H0.out.drew
  go_region_held3 (fun wx => wx.cell? ⟨w.heap.size, 1, none⟩ = some (.string P) ∧ wx.cell? ⟨w.heap.size, 2, none⟩ = some (.string Q) ∧ wx.cell? ⟨w.heap.size, 3, none⟩ = some (.int .i64 n)) (first | exact ⟨d1, d2, d3⟩ | exact HC.out _ _ _ HQ.out) (first
    | (go_at_call 24; refine (hCP.out _ _ HQ.out).mono ?_; rintro e1 w1 ⟨rfl, hq⟩; have HQ := Lib.hid hq; clear hq)
    | (go_at_call 31; refine (hCR.out _ _ HQ.out).mono ?_; rintro e1 w1 ⟨rfl, hq⟩; have HQ := Lib.hid hq; clear hq))
  all_goals
    go_wp2_with fail
    go_ret
    exact ⟨rfl, _, HPost.out _ HQ.out⟩

set_option maxRecDepth 100000 in
set_option maxHeartbeats 4000000 in
theorem does_syncDir (w : World) (p b : Nat) (D : Vf.Dk) (c : Nat) (F G : Nat → Prop) (h : Pair w p b D c F G) (hc : c ≤ 1048000) (n : Int) (P Q : ByteArray) (hP : P.size ≤ 1048576) (hQ : Q.size ≤ 1048576) (hn : -9223372036854775808 ≤ n ∧ n ≤ 9223372036854775807) :
    Calls Try.prog 11 #[.pointer (some ⟨p, 0, none⟩), .pointer (some ⟨b, 0, none⟩), stepV 6 n P Q] w (DoesPost w p b c F G) := by
  have H0 := Lib.hid (h.ph (stepO 6 n P Q))
  obtain ⟨s0, s1, s2, s3⟩ := step_cells w 6 n P Q
  have ok := h.ok
  have ok2 : Vf.OkF (Vf.syncDir D).2 (c + 1) 1048576 := ok.syncDir
  have HPost : Hid (∀ w', Ph (w.alloc (stepO 6 n P Q)) p b (Vf.syncDir D).2 (Vf.syncDir D).2 F G w' → PairPost w p b (Vf.syncDir D).2 (c + 1) F G w') := fun w' hq => hq.post ok2
  have hF : ∀ k, F k ∨ G k → k < w.heap.size := fun k hk => hk.elim (h.pa.lt k) (h.ra.lt k)
  have hxl : w.heap.size < (w.alloc (stepO 6 n P Q)).heap.size := by simp
  have HC : Hid (∀ D1 D2 wx, Ph (w.alloc (stepO 6 n P Q)) p b D1 D2 F G wx → wx.cell? ⟨w.heap.size, 1, none⟩ = some (.string P) ∧ wx.cell? ⟨w.heap.size, 2, none⟩ = some (.string Q) ∧ wx.cell? ⟨w.heap.size, 3, none⟩ = some (.int .i64 n)) := fun D1 D2 wx hq => ⟨hq.cell hxl hF s1, hq.cell hxl hF s2, hq.cell hxl hF s3⟩
  have hCP : Hid (∀ D2 wx, Ph (w.alloc (stepO 6 n P Q)) p b D D2 F G wx → Calls Try.prog 16 #[.pointer (some ⟨p, 0, none⟩)] wx fun e w' => e = .returned (.int .i64 (Vf.syncDir D).1) ∧ Ph (w.alloc (stepO 6 n P Q)) p b (Vf.syncDir D).2 D2 F G w') := fun D2 wx hq => hq.progGo fun wx F' hA => syncDirP_any wx p D F' c 1048576 hA h.ok.1.ok (by omega)
  have hCR : Hid (∀ D1 wx, Ph (w.alloc (stepO 6 n P Q)) p b D1 D F G wx → Calls Try.prog 32 #[.pointer (some ⟨b, 0, none⟩)] wx fun e w' => e = .returned (.int .i64 (Vf.syncDir D).1) ∧ Ph (w.alloc (stepO 6 n P Q)) p b D1 (Vf.syncDir D).2 F G w') := fun D1 wx hq => hq.refGo fun wx G' hA => RA.syncDir hA h.ok (by omega)
  clear ok ok2 hF hxl hn hP hQ
  generalize Vf.syncDir D = r at *
  obtain ⟨v, D'⟩ := r
  unfold stepV
  go_enter Try.func11, Try.ntmps11
  have hw : w.alloc (.cells #[.int .i64 6, .string P, .string Q, .int .i64 n] 29) = w.alloc (stepO 6 n P Q) := rfl
  generalize w.alloc (stepO 6 n P Q) = wb at *
  go_wp2_with fail
  refine (hCP.out _ _ H0.out).mono ?_
  rintro e1 w1 ⟨rfl, hq⟩
  have HQ := Lib.hid hq
  clear hq
  go_wp2_with fail
  refine (hCR.out _ _ HQ.out).mono ?_
  rintro e1 w2 ⟨rfl, hq⟩
  have HQ := Lib.hid hq
  clear hq
  go_wp2_with fail
  go_ret
  exact ⟨rfl, _, HPost.out _ HQ.out⟩

set_option maxRecDepth 100000 in
set_option maxHeartbeats 4000000 in
theorem does_arm (w : World) (p b : Nat) (D : Vf.Dk) (c : Nat) (F G : Nat → Prop) (h : Pair w p b D c F G) (hc : c ≤ 1048000) (n : Int) (P Q : ByteArray) (hP : P.size ≤ 1048576) (hQ : Q.size ≤ 1048576) (hn : -9223372036854775808 ≤ n ∧ n ≤ 9223372036854775807) :
    Calls Try.prog 11 #[.pointer (some ⟨p, 0, none⟩), .pointer (some ⟨b, 0, none⟩), stepV 7 n P Q] w (DoesPost w p b c F G) := by
  have H0 := Lib.hid (h.ph (stepO 7 n P Q))
  obtain ⟨s0, s1, s2, s3⟩ := step_cells w 7 n P Q
  have ok := h.ok
  have ok2 : Vf.OkF (Vf.arm D n (faultZ P)).2 (c + 1) 1048576 := (ok.arm n (faultZ P) hn.2).mono (Nat.le_succ c)
  have HPost : Hid (∀ w', Ph (w.alloc (stepO 7 n P Q)) p b (Vf.arm D n (faultZ P)).2 (Vf.arm D n (faultZ P)).2 F G w' → PairPost w p b (Vf.arm D n (faultZ P)).2 (c + 1) F G w') := fun w' hq => hq.post ok2
  have hF : ∀ k, F k ∨ G k → k < w.heap.size := fun k hk => hk.elim (h.pa.lt k) (h.ra.lt k)
  have hxl : w.heap.size < (w.alloc (stepO 7 n P Q)).heap.size := by simp
  have HC : Hid (∀ D1 D2 wx, Ph (w.alloc (stepO 7 n P Q)) p b D1 D2 F G wx → wx.cell? ⟨w.heap.size, 1, none⟩ = some (.string P) ∧ wx.cell? ⟨w.heap.size, 2, none⟩ = some (.string Q) ∧ wx.cell? ⟨w.heap.size, 3, none⟩ = some (.int .i64 n)) := fun D1 D2 wx hq => ⟨hq.cell hxl hF s1, hq.cell hxl hF s2, hq.cell hxl hF s3⟩
  have hCP : Hid (∀ D2 wx, Ph (w.alloc (stepO 7 n P Q)) p b D D2 F G wx → Calls Try.prog 20 #[.pointer (some ⟨p, 0, none⟩), .int .i64 n, .int .i64 (faultZ P)] wx fun e w' => e = .returned (.int .i64 (Vf.arm D n (faultZ P)).1) ∧ Ph (w.alloc (stepO 7 n P Q)) p b (Vf.arm D n (faultZ P)).2 D2 F G w') := fun D2 wx hq => hq.progGo fun wx F' hA => armP_any wx p D F' n (faultZ P) hA
  have hCR : Hid (∀ D1 wx, Ph (w.alloc (stepO 7 n P Q)) p b D1 D F G wx → Calls Try.prog 34 #[.pointer (some ⟨b, 0, none⟩), .int .i64 n, .int .i64 (faultZ P)] wx fun e w' => e = .returned (.int .i64 (Vf.arm D n (faultZ P)).1) ∧ Ph (w.alloc (stepO 7 n P Q)) p b D1 (Vf.arm D n (faultZ P)).2 F G w') := fun D1 wx hq => hq.refGo fun wx G' hA => RA.arm hA n (faultZ P)
  clear ok ok2 hF hxl hn hP hQ
  generalize Vf.arm D n (faultZ P) = r at *
  obtain ⟨v, D'⟩ := r
  unfold stepV
  go_enter Try.func11, Try.ntmps11
  have hw : w.alloc (.cells #[.int .i64 7, .string P, .string Q, .int .i64 n] 29) = w.alloc (stepO 7 n P Q) := rfl
  generalize w.alloc (stepO 7 n P Q) = wb at *
  go_wp2_with fail
  have d1 : wb.drew.cell? ⟨w.heap.size, 1, none⟩ = some (.string P) := s1
  have d2 : wb.drew.cell? ⟨w.heap.size, 2, none⟩ = some (.string Q) := s2
  have d3 : wb.drew.cell? ⟨w.heap.size, 3, none⟩ = some (.int .i64 n) := s3
  have HQ := Lib.hid H0.out.drew
  have hFa : Hid (∀ wx : World, Calls Try.prog 33 #[.string P] wx fun e w' => e = .returned (.int .i64 (faultZ P)) ∧ wx = w') := fun wx => fault_any wx P
  generalize faultZ P = fz at *
  go_region_held3 (fun wx => wx.cell? ⟨w.heap.size, 1, none⟩ = some (.string P) ∧ wx.cell? ⟨w.heap.size, 2, none⟩ = some (.string Q) ∧ wx.cell? ⟨w.heap.size, 3, none⟩ = some (.int .i64 n)) (first | exact ⟨d1, d2, d3⟩ | exact HC.out _ _ _ HQ.out) (first
    | (go_at_call 33; refine (hFa.out _).mono ?_; rintro e1 wz ⟨rfl, rfl⟩)
    | (go_at_call 20; refine (hCP.out _ _ HQ.out).mono ?_; rintro e1 w1 ⟨rfl, hq⟩; have HQ := Lib.hid hq; clear hq)
    | (go_at_call 34; refine (hCR.out _ _ HQ.out).mono ?_; rintro e1 w1 ⟨rfl, hq⟩; have HQ := Lib.hid hq; clear hq))
  all_goals
    go_wp2_with fail
    go_ret
    exact ⟨rfl, _, HPost.out _ HQ.out⟩

set_option maxRecDepth 100000 in
set_option maxHeartbeats 4000000 in
theorem does_restart (w : World) (p b : Nat) (D : Vf.Dk) (c : Nat) (F G : Nat → Prop) (h : Pair w p b D c F G) (hc : c ≤ 1048000) (n : Int) (P Q : ByteArray) (hP : P.size ≤ 1048576) (hQ : Q.size ≤ 1048576) (hn : -9223372036854775808 ≤ n ∧ n ≤ 9223372036854775807) :
    Calls Try.prog 11 #[.pointer (some ⟨p, 0, none⟩), .pointer (some ⟨b, 0, none⟩), stepV 9 n P Q] w (DoesPost w p b c F G) := by
  have H0 := Lib.hid (h.ph (stepO 9 n P Q))
  obtain ⟨s0, s1, s2, s3⟩ := step_cells w 9 n P Q
  have ok := h.ok
  have ok2 : Vf.OkF (Vf.restart D n).2 (c + 1) 1048576 := ok.restart n
  have HPost : Hid (∀ w', Ph (w.alloc (stepO 9 n P Q)) p b (Vf.restart D n).2 (Vf.restart D n).2 F G w' → PairPost w p b (Vf.restart D n).2 (c + 1) F G w') := fun w' hq => hq.post ok2
  have hF : ∀ k, F k ∨ G k → k < w.heap.size := fun k hk => hk.elim (h.pa.lt k) (h.ra.lt k)
  have hxl : w.heap.size < (w.alloc (stepO 9 n P Q)).heap.size := by simp
  have HC : Hid (∀ D1 D2 wx, Ph (w.alloc (stepO 9 n P Q)) p b D1 D2 F G wx → wx.cell? ⟨w.heap.size, 1, none⟩ = some (.string P) ∧ wx.cell? ⟨w.heap.size, 2, none⟩ = some (.string Q) ∧ wx.cell? ⟨w.heap.size, 3, none⟩ = some (.int .i64 n)) := fun D1 D2 wx hq => ⟨hq.cell hxl hF s1, hq.cell hxl hF s2, hq.cell hxl hF s3⟩
  have hCP : Hid (∀ D2 wx, Ph (w.alloc (stepO 9 n P Q)) p b D D2 F G wx → Calls Try.prog 18 #[.pointer (some ⟨p, 0, none⟩), .int .i64 n] wx fun e w' => e = .returned (.int .i64 (Vf.restart D n).1) ∧ Ph (w.alloc (stepO 9 n P Q)) p b (Vf.restart D n).2 D2 F G w') := fun D2 wx hq => hq.progGo fun wx F' hA => restartP_any wx p D F' c 1048576 n hA h.ok.1.ok (by omega) (by omega) hn
  have hCR : Hid (∀ D1 wx, Ph (w.alloc (stepO 9 n P Q)) p b D1 D F G wx → Calls Try.prog 35 #[.pointer (some ⟨b, 0, none⟩), .int .i64 n] wx fun e w' => e = .returned (.int .i64 (Vf.restart D n).1) ∧ Ph (w.alloc (stepO 9 n P Q)) p b D1 (Vf.restart D n).2 F G w') := fun D1 wx hq => hq.refGo fun wx G' hA => RA.restart hA h.ok (by omega) n hn
  clear ok ok2 hF hxl hn hP hQ
  generalize Vf.restart D n = r at *
  obtain ⟨v, D'⟩ := r
  unfold stepV
  go_enter Try.func11, Try.ntmps11
  have hw : w.alloc (.cells #[.int .i64 9, .string P, .string Q, .int .i64 n] 29) = w.alloc (stepO 9 n P Q) := rfl
  generalize w.alloc (stepO 9 n P Q) = wb at *
  go_wp2_with fail
  have d1 : wb.drew.cell? ⟨w.heap.size, 1, none⟩ = some (.string P) := s1
  have d2 : wb.drew.cell? ⟨w.heap.size, 2, none⟩ = some (.string Q) := s2
  have d3 : wb.drew.cell? ⟨w.heap.size, 3, none⟩ = some (.int .i64 n) := s3
  have HQ := Lib.hid H0.out.drew
  go_region_held3 (fun wx => wx.cell? ⟨w.heap.size, 1, none⟩ = some (.string P) ∧ wx.cell? ⟨w.heap.size, 2, none⟩ = some (.string Q) ∧ wx.cell? ⟨w.heap.size, 3, none⟩ = some (.int .i64 n)) (first | exact ⟨d1, d2, d3⟩ | exact HC.out _ _ _ HQ.out) (first
    | (go_at_call 18; refine (hCP.out _ _ HQ.out).mono ?_; rintro e1 w1 ⟨rfl, hq⟩; have HQ := Lib.hid hq; clear hq)
    | (go_at_call 35; refine (hCR.out _ _ HQ.out).mono ?_; rintro e1 w1 ⟨rfl, hq⟩; have HQ := Lib.hid hq; clear hq))
  all_goals
    go_wp2_with fail
    go_ret
    exact ⟨rfl, _, HPost.out _ HQ.out⟩
end Go.Proofs.Ytdohenbicepicaa
