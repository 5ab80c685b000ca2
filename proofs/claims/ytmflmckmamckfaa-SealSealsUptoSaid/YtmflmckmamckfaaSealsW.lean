/-
  Every content is sealed as the document says, and all bytes are opened as it says: the walks of the two statements.
-/
import Derived.Test.YtmflmckmamckfaaRefOpen
import Derived.Test.YtmflmckmamckfaaAwk
namespace Go.Proofs.Ytmflmckmamckfaa
open Go.RowKit

set_option maxRecDepth 100000 in
set_option maxHeartbeats 1000000 in
theorem seals_walk (n : Int) (s : ByteArray) (w : World) (hs : s.size ≤ 1048576) :
    Calls Try.prog 3 #[.int .i64 n, .string s] w fun e w' => e = .returned (.bool true) ∧ Below w.heap.size w w' := by
  have hM : Hid (∀ w', Calls Try.prog 10 #[.string s] w' fun e' w'' => e' = .returned (.int .u32 (Pl.crc s.data.toList)) ∧ w' = w'') := fun w' => sum_any s w' (by omega)
  have hMR : Hid (∀ w', Calls Try.prog 11 #[.string s] w' fun e' w'' => e' = .returned (.int .u32 (Pl.crc s.data.toList)) ∧ Below w'.heap.size w' w'') := fun w' => refSum_any s (by omega) w'
  generalize Pl.crc s.data.toList = x at *
  by_cases hn : 0 ≤ n ∧ n ≤ 255
  · obtain ⟨k, rfl⟩ := Int.eq_ofNat_of_zero_le hn.1
    have hk : k ≤ 255 := by omega
    have hS := Lib.hid (seal_any k hk s (by omega) w)
    have hSR : Hid (∀ w', Calls Try.prog 8 #[.int .i64 k, .string s] w' fun e' w'' => e' = .returned (.tuple #[.string ⟨(sealB k s.data.toList).toArray⟩, .int .i64 0]) ∧ Below w'.heap.size w' w'') := fun w' => sealR_any k hk s (by omega) w'
    generalize (⟨(sealB k s.data.toList).toArray⟩ : ByteArray) = b at *
    clear hn
    go_enter Try.func3, Try.ntmps3
    go_wp2_with (first
      | (go_at_call 7; refine hS.out.mono ?_; rintro e1 w1 ⟨rfl, hb⟩; have HB := Lib.hid hb; clear hb)
      | (go_at_call 8; refine (hSR.out _).mono ?_; rintro e1 w1 ⟨rfl, hb⟩; have HB := Lib.hid (HB.out.trans (hb.mono HB.out.size)); clear hb)
      | (go_at_call 9; refine (awake_any _).mono ?_; rintro e1 w2 ⟨rfl, hb⟩; have HB := Lib.hid (HB.out.trans (hb.mono HB.out.size)); clear hb)
      | (go_at_call 10; refine (hM.out _).mono ?_; rintro e1 w3 ⟨rfl, rfl⟩)
      | (go_at_call 11; refine (hMR.out _).mono ?_; rintro e1 w4 ⟨rfl, hb⟩; have HB := Lib.hid (HB.out.trans (hb.mono HB.out.size)); clear hb))
    go_ret
    exact ⟨rfl, HB.out⟩
  · have hS := Lib.hid (seal_no n s w hn)
    have hSR : Hid (∀ w', Calls Try.prog 8 #[.int .i64 n, .string s] w' fun e' w'' => e' = .returned (.tuple #[.string ⟨#[]⟩, .int .i64 1]) ∧ w' = w'') := fun w' => sealR_no n s w' hn
    have HB : Hid (Below w.heap.size w w) := Below.refl _ _
    clear hn
    go_enter Try.func3, Try.ntmps3
    go_wp2_with (first
      | (go_at_call 7; refine hS.out.mono ?_; rintro e1 w1 ⟨rfl, rfl⟩)
      | (go_at_call 8; refine (hSR.out _).mono ?_; rintro e1 w1 ⟨rfl, rfl⟩)
      | (go_at_call 9; refine (awake_any _).mono ?_; rintro e1 w2 ⟨rfl, hb⟩; have HB := Lib.hid (HB.out.trans (hb.mono HB.out.size)); clear hb)
      | (go_at_call 10; refine (hM.out _).mono ?_; rintro e1 w3 ⟨rfl, rfl⟩)
      | (go_at_call 11; refine (hMR.out _).mono ?_; rintro e1 w4 ⟨rfl, hb⟩; have HB := Lib.hid (HB.out.trans (hb.mono HB.out.size)); clear hb))
    go_ret
    exact ⟨rfl, HB.out⟩

set_option maxRecDepth 100000 in
set_option maxHeartbeats 1000000 in
theorem opens_walk (n : Int) (b : ByteArray) (w : World) (hs : b.size ≤ 1048576) :
    Calls Try.prog 4 #[.int .i64 n, .string b] w fun e w' => e = .returned (.bool true) ∧ Below w.heap.size w w' := by
  have H : ∃ (t : ByteArray) (e : Int), (∀ w', Calls Try.prog 12 #[.int .i64 n, .string b] w' fun e' w'' => e' = .returned (.tuple #[.string t, .int .i64 e]) ∧ Below w'.heap.size w' w'')
      ∧ (∀ w', Calls Try.prog 13 #[.int .i64 n, .string b] w' fun e' w'' => e' = .returned (.tuple #[.string t, .int .i64 e]) ∧ Below w'.heap.size w' w'') := by
    by_cases hn : 0 ≤ n ∧ n ≤ 255
    · obtain ⟨k, rfl⟩ := Int.eq_ofNat_of_zero_le hn.1
      exact ⟨_, _, fun w' => open_any k (by omega) b (by omega) w' _ _ rfl, fun w' => openR_any k (by omega) b (by omega) w' _ _ rfl⟩
    · exact ⟨⟨#[]⟩, 1, fun w' => (open_no n b w' hn).mono fun e' w'' ⟨h1, h2⟩ => ⟨h1, h2 ▸ Below.refl _ _⟩, fun w' => (openR_no n b w' hn).mono fun e' w'' ⟨h1, h2⟩ => ⟨h1, h2 ▸ Below.refl _ _⟩⟩
  obtain ⟨t, e, h1, h2⟩ := H
  have H1 := Lib.hid h1
  have H2 := Lib.hid h2
  have HB : Hid (Below w.heap.size w w) := Below.refl _ _
  clear h1 h2
  go_enter Try.func4, Try.ntmps4
  go_wp2_with (first
    | (go_at_call 12; refine (H1.out _).mono ?_; rintro e1 w1 ⟨rfl, hb⟩; have HB := Lib.hid (HB.out.trans (hb.mono HB.out.size)); clear hb)
    | (go_at_call 13; refine (H2.out _).mono ?_; rintro e1 w1 ⟨rfl, hb⟩; have HB := Lib.hid (HB.out.trans (hb.mono HB.out.size)); clear hb)
    | (go_at_call 9; refine (awake_any _).mono ?_; rintro e1 w2 ⟨rfl, hb⟩; have HB := Lib.hid (HB.out.trans (hb.mono HB.out.size)); clear hb))
  go_ret
  exact ⟨rfl, HB.out⟩
end Go.Proofs.Ytmflmckmamckfaa
