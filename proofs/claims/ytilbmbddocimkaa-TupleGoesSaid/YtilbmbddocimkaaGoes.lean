/-
  A cursor over any bytes answers, call by call, what the document's own readers answer, and stands where they say.
-/
import Derived.Test.YtilbmbddocimkaaRefAll
import Derived.Test.YtilbmbddocimkaaAwake
import Derived.Deep.QuietTactic
import Derived.BigQuiet
namespace Go.Proofs.Ytilbmbddocimkaa
open Go.RowKit

theorem rest_q (s : ByteArray) (b : Nat) (w : World) (hc : Cur w b s) (nq : Nat) :
    Calls Try.prog 7 #[.pointer (some ⟨b, 0, none⟩)] (w.drewN nq) fun e' w' => e' = .returned (.string s) ∧ w' = w.drewN nq :=
  (rest_any s b (w.drewN nq) hc).mono fun _ _ ⟨h1, h2⟩ => ⟨h1, h2.symm⟩
theorem below_drewN {B : Nat} {a w : World} (h : Below B a w) (n : Nat) : Below B a (w.drewN n) := h.trans ⟨rfl, rfl, rfl, Nat.le_refl _, fun _ _ => rfl⟩

/-- What one step says. -/
def WentPost (b : Nat) (w : World) (s : ByteArray) (z : Int) (e' : Ending) (w' : World) : Prop := e' = .returned (.bool true) ∧ Below b w w' ∧ Cur w' b (s.extract z.toNat s.size)

set_option maxRecDepth 100000 in
set_option maxHeartbeats 1000000 in
theorem went_0 (s : ByteArray) (b : Nat) (w : World) (hc : Cur w b s) (hsz : s.size ≤ 140737488351232) (n : Int) (z e : Int) (hr : Pl.rdNum s.data.toList = (n, z, e)) :
    Calls Try.prog 8 #[.pointer (some ⟨b, 0, none⟩), .string s, .int .i64 0] w (WentPost b w s z) := by
  have hlt := hc.lt
  have h1 := Lib.hid (num_any s b w hc hsz n z e hr)
  have h2 : Hid (∀ w, Calls Try.prog 15 #[.string s] w fun e' w' => e' = .returned (.tuple #[.int .i64 n, .int .i64 z, .int .i64 e]) ∧ Below w.heap.size w w') := fun w => readNumR_any s w (by omega) n z e hr
  have hb := rdNum_bd _ _ _ _ hr
  have hlen : s.data.toList.length = s.size := by simp
  rw [hlen] at hb
  obtain ⟨_, ⟨b3, b4⟩, _, _⟩ := hb
  clear hr hlen
  have HC := Lib.hid hc
  clear hc
  go_enter Try.func8, Try.ntmps8
  go_wp2_with fail
  refine h1.out.mono ?_
  rintro e' w1 ⟨rfl, hb1, hc1⟩
  unfold rest at hc1
  have HB1 := Lib.hid hb1
  have HC1 := Lib.hid hc1
  clear hb1 hc1 h1
  go_wp2_with fail
  refine (h2.out _).mono ?_
  rintro e' w2 ⟨rfl, hb2⟩
  have hc2 := HC1.out.below hb2 HC1.out.lt
  have HB2 : Hid (Below b w w2) := HB1.out.trans (hb2.mono (Nat.le_of_lt HC1.out.lt))
  clear hb2 h2 HB1 HC1
  go_wp2_with fail
  go_quiet ((go_at_call 7; exact Calls.quiet_of_same (rest_q _ _ _ hc2 _)))
  go_wp2
  go_ret
  exact ⟨rfl, below_drewN HB2.out _, hc2⟩
set_option maxRecDepth 100000 in
set_option maxHeartbeats 1000000 in
theorem went_1 (s : ByteArray) (b : Nat) (w : World) (hc : Cur w b s) (hsz : s.size ≤ 140737488351232) (n : Int) (z e : Int) (hr : Pl.rdCount s.data.toList = (n, z, e)) :
    Calls Try.prog 8 #[.pointer (some ⟨b, 0, none⟩), .string s, .int .i64 1] w (WentPost b w s z) := by
  have hlt := hc.lt
  have h1 := Lib.hid (count_any s b w hc hsz n z e hr)
  have h2 : Hid (∀ w, Calls Try.prog 16 #[.string s] w fun e' w' => e' = .returned (.tuple #[.int .i64 n, .int .i64 z, .int .i64 e]) ∧ Below w.heap.size w w') := fun w => readCountR_any s w (by omega) n z e hr
  have hb := rdCount_bd _ _ _ _ hr
  have hlen : s.data.toList.length = s.size := by simp
  rw [hlen] at hb
  obtain ⟨_, ⟨b3, b4⟩, _, _⟩ := hb
  clear hr hlen
  have HC := Lib.hid hc
  clear hc
  go_enter Try.func8, Try.ntmps8
  go_wp2_with fail
  refine h1.out.mono ?_
  rintro e' w1 ⟨rfl, hb1, hc1⟩
  unfold rest at hc1
  have HB1 := Lib.hid hb1
  have HC1 := Lib.hid hc1
  clear hb1 hc1 h1
  go_wp2_with fail
  refine (h2.out _).mono ?_
  rintro e' w2 ⟨rfl, hb2⟩
  have hc2 := HC1.out.below hb2 HC1.out.lt
  have HB2 : Hid (Below b w w2) := HB1.out.trans (hb2.mono (Nat.le_of_lt HC1.out.lt))
  clear hb2 h2 HB1 HC1
  go_wp2_with fail
  go_quiet ((go_at_call 7; exact Calls.quiet_of_same (rest_q _ _ _ hc2 _)))
  go_wp2
  go_ret
  exact ⟨rfl, below_drewN HB2.out _, hc2⟩
set_option maxRecDepth 100000 in
set_option maxHeartbeats 1000000 in
theorem went_2 (s : ByteArray) (b : Nat) (w : World) (hc : Cur w b s) (hsz : s.size ≤ 140737488351232) (t : List UInt8) (z e : Int) (hr : Pl.rdText s.data.toList [] 0 = (t, z, e)) :
    Calls Try.prog 8 #[.pointer (some ⟨b, 0, none⟩), .string s, .int .i64 2] w (WentPost b w s z) := by
  have hlt := hc.lt
  have h1 := Lib.hid (text_any s b w hc hsz t z e hr)
  have h2 : Hid (∀ w, Calls Try.prog 17 #[.string s] w fun e' w' => e' = .returned (.tuple #[.string ⟨t.toArray⟩, .int .i64 z, .int .i64 e]) ∧ Below w.heap.size w w') := fun w => (readTextR_any s w hsz t z e hr).mono fun _ _ ⟨h1, h2⟩ => ⟨h1, h2 ▸ Below.refl _ _⟩
  have hb := rdText_bd _ _ _ _ _ _ _ (Nat.le_refl _) hr
  have hlen : s.data.toList.length = s.size := by simp
  rw [hlen] at hb
  obtain ⟨⟨b3, b4⟩, _, _⟩ := hb
  have b4 : z ≤ (s.size : Int) := by omega
  clear hr hlen
  have HC := Lib.hid hc
  clear hc
  go_enter Try.func8, Try.ntmps8
  go_wp2_with fail
  refine h1.out.mono ?_
  rintro e' w1 ⟨rfl, hb1, hc1⟩
  unfold rest at hc1
  have HB1 := Lib.hid hb1
  have HC1 := Lib.hid hc1
  clear hb1 hc1 h1
  go_wp2_with fail
  refine (h2.out _).mono ?_
  rintro e' w2 ⟨rfl, hb2⟩
  have hc2 := HC1.out.below hb2 HC1.out.lt
  have HB2 : Hid (Below b w w2) := HB1.out.trans (hb2.mono (Nat.le_of_lt HC1.out.lt))
  clear hb2 h2 HB1 HC1
  go_wp2_with fail
  go_quiet ((go_at_call 7; exact Calls.quiet_of_same (rest_q _ _ _ hc2 _)))
  go_wp2
  go_ret
  exact ⟨rfl, below_drewN HB2.out _, hc2⟩
set_option maxRecDepth 100000 in
set_option maxHeartbeats 1000000 in
theorem went_3 (s : ByteArray) (b : Nat) (w : World) (hc : Cur w b s) (hsz : s.size ≤ 140737488351232) (t : List UInt8) (z e : Int) (hr : Pl.rdBlock s.data.toList = (t, z, e)) :
    Calls Try.prog 8 #[.pointer (some ⟨b, 0, none⟩), .string s, .int .i64 3] w (WentPost b w s z) := by
  have hlt := hc.lt
  have h1 := Lib.hid (block_any s b w hc hsz t z e hr)
  have h2 : Hid (∀ w, Calls Try.prog 18 #[.string s] w fun e' w' => e' = .returned (.tuple #[.string ⟨t.toArray⟩, .int .i64 z, .int .i64 e]) ∧ Below w.heap.size w w') := fun w => readBlockR_any s w (by omega) t z e hr
  have hb := rdBlock_bd _ _ _ _ hr
  have hlen : s.data.toList.length = s.size := by simp
  rw [hlen] at hb
  obtain ⟨⟨b3, b4⟩, _, _⟩ := hb
  clear hr hlen
  have HC := Lib.hid hc
  clear hc
  go_enter Try.func8, Try.ntmps8
  go_wp2_with fail
  refine h1.out.mono ?_
  rintro e' w1 ⟨rfl, hb1, hc1⟩
  unfold rest at hc1
  have HB1 := Lib.hid hb1
  have HC1 := Lib.hid hc1
  clear hb1 hc1 h1
  go_wp2_with fail
  refine (h2.out _).mono ?_
  rintro e' w2 ⟨rfl, hb2⟩
  have hc2 := HC1.out.below hb2 HC1.out.lt
  have HB2 : Hid (Below b w w2) := HB1.out.trans (hb2.mono (Nat.le_of_lt HC1.out.lt))
  clear hb2 h2 HB1 HC1
  go_wp2_with fail
  go_quiet ((go_at_call 7; exact Calls.quiet_of_same (rest_q _ _ _ hc2 _)))
  go_wp2
  go_ret
  exact ⟨rfl, below_drewN HB2.out _, hc2⟩

/-- One step, whichever it is: it is as the document says, and no more bytes are left than before. -/
def WentAny (b : Nat) (w : World) (n : Nat) (e' : Ending) (w' : World) : Prop := e' = .returned (.bool true) ∧ Below b w w' ∧ ∃ st, Cur w' b st ∧ st.size ≤ n
theorem went_any (s : ByteArray) (b : Nat) (w : World) (hc : Cur w b s) (hsz : s.size ≤ 140737488351232) (q : Int) (h0 : 0 ≤ q) (h3 : q ≤ 3) :
    Calls Try.prog 8 #[.pointer (some ⟨b, 0, none⟩), .string s, .int .i64 q] w (WentAny b w s.size) := by
  have fin : ∀ z, ∀ e' w', WentPost b w s z e' w' → WentAny b w s.size e' w' := fun z e' w' ⟨h1, h2, h3⟩ => ⟨h1, h2, _, h3, by rw [ByteArray.size_extract]; omega⟩
  have hq : q = 0 ∨ q = 1 ∨ q = 2 ∨ q = 3 := by omega
  rcases hq with rfl | rfl | rfl | rfl
  · exact (went_0 s b w hc hsz _ _ _ rfl).mono fun e' w' h => fin _ e' w' h
  · exact (went_1 s b w hc hsz _ _ _ rfl).mono fun e' w' h => fin _ e' w' h
  · exact (went_2 s b w hc hsz _ _ _ rfl).mono fun e' w' h => fin _ e' w' h
  · exact (went_3 s b w hc hsz _ _ _ rfl).mono fun e' w' h => fin _ e' w' h
end Go.Proofs.Ytilbmbddocimkaa
