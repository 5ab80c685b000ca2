/-
  What bytes claim, where a block ends: the program's calls.
-/
import Derived.Test.YtokdjaljeckghaaPl
namespace Go.Proofs.Ytokdjaljeckghaa
open Go.RowKit
theorem arr_len (s : ByteArray) : s.data.toList.length = s.size := by simp
set_option maxRecDepth 100000 in
set_option maxHeartbeats 2000000 in
theorem tooMany_any (w : World) (k : Nat) (s : ByteArray) (hk : k < 3) (hs : s.size ≤ 1073741824) :
    Calls Try.prog 32 #[.int .i64 k, .string s] w fun e w' => e = .returned (.bool (decide (Pt.many k s.data.toList))) ∧ Below w.heap.size w w' := by
  obtain ⟨n0, y0, e0, hw⟩ : ∃ n y e, Pl.rdCount s.data.toList = (n, y, e) := ⟨_, _, _, rfl⟩
  have hcur := at_cur s w 108
  have hcount := Lib.hid (count_any s w.heap.size _ hcur (by omega) n0 y0 e0 hw)
  obtain ⟨⟨b1, b2⟩, ⟨b3, b4⟩, b5, b6⟩ := rdCount_bd _ _ _ _ hw
  have hbw : Hid (Below w.heap.size w (w.alloc (.cells #[.string s] 108))) := (Below.refl _ _).alloc (Nat.le_refl _) _
  have hM : Hid (decide (Pt.many k s.data.toList) = decide (1048576 + (if k = 2 then 8 * (s.size : Int) else 0) < n0)) := by
    refine decide_eq_decide.2 ?_
    unfold Pt.many Pt.claim
    rw [hw, arr_len]
  clear hw hcur b4 b5 b6
  rw [hM.out]
  obtain ⟨m, hm⟩ : ∃ m, m = s.size := ⟨_, rfl⟩
  by_cases hk2 : k = 2
  · subst hk2
    rw [if_pos rfl]
    have i1 : ((2 : Int) == 2) = true := rfl
    go_enter Try.func32, Try.ntmps32
    go_wp2_with (first | (go_at_call 47; refine (at_any s _).mono ?_; rintro e1 w1 ⟨rfl, rfl⟩) | (go_at_call 48; refine hcount.out.mono ?_; rintro e1 w2 ⟨rfl, hb2, hc2⟩; have HB2 : Hid (Below w.heap.size w w2) := hbw.out.trans hb2; clear hb2 hc2))
    go_ret
    exact ⟨rfl, HB2.out⟩
  · rw [if_neg hk2, Int.add_zero]
    have i1 : ((k : Int) == 2) = false := by simpa using (fun q : (k : Int) = 2 => hk2 (by omega))
    clear hk2
    go_enter Try.func32, Try.ntmps32
    go_wp2_with (first | (go_at_call 47; refine (at_any s _).mono ?_; rintro e1 w1 ⟨rfl, rfl⟩) | (go_at_call 48; refine hcount.out.mono ?_; rintro e1 w2 ⟨rfl, hb2, hc2⟩; have HB2 : Hid (Below w.heap.size w w2) := hbw.out.trans hb2; clear hb2 hc2))
    go_ret
    exact ⟨rfl, HB2.out⟩
theorem ends_le (n : Nat) (s : List UInt8) : Pt.ends n s ≤ s.length := by
  cases s with
  | nil => exact Nat.le_refl _
  | cons c t => exact Nat.min_le_left _ _
set_option maxRecDepth 100000 in
set_option maxHeartbeats 2000000 in
theorem blockEnd_any (w : World) (n : Nat) (s : ByteArray) (hn : n ≤ 128) (hs : s.size ≤ 1073741824) :
    Calls Try.prog 52 #[.string s, .int .i64 n] w fun e w' => e = .returned (.int .i64 (Pt.ends n s.data.toList : Nat)) ∧ w' = w := by
  by_cases h0 : s.size = 0
  · have hT := empty_true s h0
    have hE : Hid (Pt.ends n s.data.toList = 0) := by
      show _ = _
      have := ends_le n s.data.toList
      rw [arr_len] at this
      omega
    rw [hE.out]
    clear h0
    go_enter Try.func52, Try.ntmps52
    go_wp2_with fail
    go_ret
    exact ⟨rfl, rfl⟩
  · have hF := empty_false s (by omega)
    have h1 : 0 < s.size := by omega
    have hE : Hid (Pt.ends n s.data.toList = Nat.min s.size (1 + (n * s[0].toNat + 7) / 8)) := by
      show _ = _
      have e := drop_cons s 0 h1
      rw [List.drop_zero] at e
      have hl : (s.data.toList.drop 1).length + 1 = s.size := by rw [List.length_drop, arr_len]; omega
      rw [e]
      show Nat.min ((s.data.toList.drop 1).length + 1) _ = _
      rw [hl]
    rw [hE.out]
    have hb := s[0].toNat_lt
    have hm : n * s[0].toNat ≤ 128 * 255 := Nat.mul_le_mul hn (by omega)
    have hmm : (n : Int) * (s[0].toNat : Int) = ((n * s[0].toNat : Nat) : Int) := by simp
    obtain ⟨m, hmz⟩ : ∃ m, m = n * s[0].toNat := ⟨_, rfl⟩
    rw [← hmz] at hm hmm ⊢
    obtain ⟨Q, hQ⟩ : ∃ Q, Q = (m + 7) / 8 := ⟨_, rfl⟩
    rw [← hQ]
    have hq : ((m : Int) + 7) / 8 = (Q : Int) := by omega
    have hq2 : ((m : Int) + 7).tdiv 8 = (Q : Int) := by rw [Int.tdiv_eq_ediv_of_nonneg (by omega)]; omega
    have hq3 : Q ≤ 4081 := by omega
    have hmin : Hid (((Nat.min s.size (1 + Q) : Nat) : Int) = min (s.size : Int) (1 + (Q : Int))) := by
      show _ = _
      have e : Nat.min s.size (1 + Q) = min s.size (1 + Q) := rfl
      rw [e]
      omega
    rw [hmin.out]
    clear hQ
    have hi : (0 : Int) < (s.size : Int) := by omega
    clear h0 hmz
    go_enter Try.func52, Try.ntmps52
    go_wp2_with fail
    go_ret
    exact ⟨rfl, rfl⟩
end Go.Proofs.Ytokdjaljeckghaa
