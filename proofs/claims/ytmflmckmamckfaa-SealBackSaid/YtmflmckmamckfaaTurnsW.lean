/-
  A sealed content of which any one bit has turned is refused: the walk of the statement.
-/
import Derived.Test.YtmflmckmamckfaaTurn
import Derived.Test.YtmflmckmamckfaaAwk
namespace Go.Proofs.Ytmflmckmamckfaa
open Go.RowKit

theorem seal_size (k : Nat) (s : ByteArray) : (⟨(sealB k s.data.toList).toArray⟩ : ByteArray).size ≤ s.size + 17 := by
  have := sealB_length k s.data.toList
  rw [size_mk]
  simpa using this

set_option maxRecDepth 100000 in
set_option maxHeartbeats 1000000 in
theorem turns_no (n q : Int) (s : ByteArray) (w : World) (hn : ¬ (0 ≤ n ∧ n ≤ 255)) :
    Calls Try.prog 6 #[.int .i64 n, .string s, .int .i64 q] w fun e w' => e = .returned (.bool true) ∧ Below w.heap.size w w' := by
  have hS := Lib.hid (seal_no n s w hn)
  clear hn
  go_enter Try.func6, Try.ntmps6
  have HB : Hid (Below w.heap.size w w) := Below.refl _ _
  go_wp2_with (first
    | (go_at_call 7; refine hS.out.mono ?_; rintro e1 w1 ⟨rfl, rfl⟩)
    | (go_at_call 9; refine (awake_any _).mono ?_; rintro e1 w2 ⟨rfl, hb⟩; have HB := Lib.hid (HB.out.trans (hb.mono HB.out.size)); clear hb))
  go_ret
  exact ⟨rfl, HB.out⟩

set_option maxRecDepth 100000 in
set_option maxHeartbeats 1000000 in
theorem turns_out (k : Nat) (q : Int) (s : ByteArray) (w : World) (hk : k ≤ 255) (hs : s.size ≤ 140737488351232)
    (hq : q < 0 ∨ 8 * ((⟨(sealB k s.data.toList).toArray⟩ : ByteArray).size : Int) ≤ q) :
    Calls Try.prog 6 #[.int .i64 k, .string s, .int .i64 q] w fun e w' => e = .returned (.bool true) ∧ Below w.heap.size w w' := by
  have hS := Lib.hid (seal_any k hk s hs w)
  have hz := seal_size k s
  generalize (⟨(sealB k s.data.toList).toArray⟩ : ByteArray) = b at *
  rcases hq with hq | hq
  all_goals
    go_enter Try.func6, Try.ntmps6
    go_wp2_with (first
      | (go_at_call 7; refine hS.out.mono ?_; rintro e1 w1 ⟨rfl, hb⟩; have HB := Lib.hid hb; clear hb)
      | (go_at_call 9; refine (awake_any _).mono ?_; rintro e1 w2 ⟨rfl, hb⟩; have HB := Lib.hid (HB.out.trans (hb.mono HB.out.size)); clear hb))
    go_ret
    exact ⟨rfl, HB.out⟩

set_option maxRecDepth 100000 in
set_option maxHeartbeats 1000000 in
theorem turns_in (k p r : Nat) (s : ByteArray) (w : World) (hk : k ≤ 255) (hs : s.size ≤ 140737488351232) (hp : p < (⟨(sealB k s.data.toList).toArray⟩ : ByteArray).size) (hr : r < 8) :
    Calls Try.prog 6 #[.int .i64 k, .string s, .int .i64 ((8 * p + r : Nat) : Int)] w fun e w' => e = .returned (.bool true) ∧ Below w.heap.size w w' := by
  have hS := Lib.hid (seal_any k hk s hs w)
  have hz := seal_size k s
  have hbl : Hid ((⟨(sealB k s.data.toList).toArray⟩ : ByteArray).data.toList = sealB k s.data.toList) := by show _ = _; simp
  generalize (⟨(sealB k s.data.toList).toArray⟩ : ByteArray) = b at *
  have hT : Hid (∀ w', Calls Try.prog 14 #[.string b, .int .i64 ((8 * p + r : Nat) : Int)] w' (StrPost w'.heap.size w' (b.data.toList.set p (UInt8.ofNat (b[p].toNat ^^^ 2 ^ r))))) := fun w' => turn_any b (by omega) p r hp hr w'
  have hne : b[p] ≠ UInt8.ofNat (b[p].toNat ^^^ 2 ^ r) := by
    intro e
    have h8 := pick_byte ⟨r, hr⟩ ⟨b[p].toNat, b[p].toNat_lt⟩
    simp only at h8
    have := congrArg UInt8.toNat e
    rw [UInt8.toNat_ofNat'] at this
    omega
  generalize UInt8.ofNat (b[p].toNat ^^^ 2 ^ r) = d at *
  have hl : p < b.data.toList.length := by simpa using hp
  have hset : b.data.toList.set p d = b.data.toList.take p ++ d :: b.data.toList.drop (p + 1) := List.set_eq_take_append_cons_drop.trans (if_pos hl)
  have hself : sealB k s.data.toList = b.data.toList.take p ++ b[p] :: b.data.toList.drop (p + 1) := by
    rw [← hbl.out]
    have h := drop_cons b p hp
    rw [← h, List.take_append_drop]
  have ho := Hd.open_turn k s.data.toList _ _ _ _ hself hne
  rw [← hset] at ho
  have hsz2 : (⟨(b.data.toList.set p d).toArray⟩ : ByteArray).size = b.size := by rw [size_mk]; simp
  have hO : Hid (∀ w', Calls Try.prog 12 #[.int .i64 k, .string ⟨(b.data.toList.set p d).toArray⟩] w' fun e' w'' => e' = .returned (.tuple #[.string ⟨#[]⟩, .int .i64 (openB k (b.data.toList.set p d)).2]) ∧ Below w'.heap.size w' w'') := fun w' => by
    refine open_any k hk ⟨(b.data.toList.set p d).toArray⟩ (by omega) w' [] _ ?_
    show openB k (b.data.toList.set p d) = _
    have h1 := Hd.open_none k _ ho
    rw [← h1]
  have ho' : ((openB k (b.data.toList.set p d)).2 != 0) = true := by simpa using ho
  have b1 : ((8 * p + r : Nat) : Int) < 8 * (b.size : Int) := by omega
  have b2 : (0 : Int) ≤ ((8 * p + r : Nat) : Int) := by omega
  clear hset hself ho hne hl hp hr hsz2
  generalize (openB k (b.data.toList.set p d)).2 = e at *
  generalize b.data.toList.set p d = l2 at *
  generalize 8 * p + r = q at *
  go_enter Try.func6, Try.ntmps6
  go_wp2_with (first
    | (go_at_call 7; refine hS.out.mono ?_; rintro e1 w1 ⟨rfl, hb⟩; have HB := Lib.hid hb; clear hb)
    | (go_at_call 9; refine (awake_any _).mono ?_; rintro e1 w2 ⟨rfl, hb⟩; have HB := Lib.hid (HB.out.trans (hb.mono HB.out.size)); clear hb)
    | (go_at_call 14; refine (hT.out _).mono ?_; rintro e1 w3 ⟨rfl, hb⟩; have HB := Lib.hid (HB.out.trans (hb.mono HB.out.size)); clear hb)
    | (go_at_call 12; refine (hO.out _).mono ?_; rintro e1 w4 ⟨rfl, hb⟩; have HB := Lib.hid (HB.out.trans (hb.mono HB.out.size)); clear hb))
  go_ret
  exact ⟨rfl, HB.out⟩

/-- The statement, walked. -/
theorem turns_walk (n : Int) (s : ByteArray) (q : Int) (w : World) (hs : s.size ≤ 140737488351232) :
    Calls Try.prog 6 #[.int .i64 n, .string s, .int .i64 q] w fun e w' => e = .returned (.bool true) ∧ Below w.heap.size w w' := by
  by_cases hn : 0 ≤ n ∧ n ≤ 255
  · obtain ⟨k, rfl⟩ := Int.eq_ofNat_of_zero_le hn.1
    by_cases hq : q < 0 ∨ 8 * ((⟨(sealB k s.data.toList).toArray⟩ : ByteArray).size : Int) ≤ q
    · exact turns_out k q s w (by omega) hs hq
    · obtain ⟨m, rfl⟩ := Int.eq_ofNat_of_zero_le (by omega : 0 ≤ q)
      have h := turns_in k (m / 8) (m % 8) s w (by omega) hs (by omega) (by omega)
      rw [show 8 * (m / 8) + m % 8 = m from by omega] at h
      exact h
  · exact turns_no n q s w hn
end Go.Proofs.Ytmflmckmamckfaa
