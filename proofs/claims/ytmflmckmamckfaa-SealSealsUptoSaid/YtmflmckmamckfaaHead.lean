/-
  What stands ahead of a content and behind it: the mark and the kind, the four bytes of the checksum.
-/
import Derived.Test.YtmflmckmamckfaaSum
import Derived.Test.YtmflmckmamckfaaTw
import Derived.Deep.OwnRows
namespace Go.Proofs.Ytmflmckmamckfaa
open Go.RowKit

/-- The mark and a kind. -/
def headB (k : Nat) : List UInt8 := [103, 108, 115, UInt8.ofNat k]
/-- The checksum's bytes. -/
def tailB (l : List UInt8) : List UInt8 := Pl.le4 (Pl.crc l)

set_option maxHeartbeats 400000 in
theorem isKind_any (n : Int) (w : World) :
    Calls Try.prog 15 #[.int .i64 n] w fun e' w' => e' = .returned (.bool (decide (0 ≤ n ∧ n ≤ 255))) ∧ w = w' := by
  by_cases h0 : 0 ≤ n
  · by_cases h1 : n ≤ 255
    · go_enter Try.func15, Try.ntmps15
      go_wp2
      go_ret
      exact ⟨by first | (simp; done) | (simp; omega), rfl⟩
    · go_enter Try.func15, Try.ntmps15
      go_wp2
      go_ret
      exact ⟨by first | (simp; done) | (simp; omega), rfl⟩
  · go_enter Try.func15, Try.ntmps15
    go_wp2
    go_ret
    exact ⟨by first | (simp; done) | (simp; omega), rfl⟩

set_option maxRecDepth 100000 in
set_option maxHeartbeats 1000000 in
theorem head_c (c : UInt8) (w : World) :
    Calls Try.prog 16 #[.int .i64 (c.toNat : Int)] w (StrPost w.heap.size w ([103, 108, 115] ++ [c])) := by
  have hq := c.toNat_lt
  have hcv := one_conv w c
  have hq2 : (c.toNat : Int) % 256 = (c.toNat : Int) := by omega
  go_enter Try.func16, Try.ntmps16
  go_wp2
  go_ret
  exact ⟨ret_str (append_mk [103, 108, 115] c), (Below.refl _ _).alloc (Nat.le_refl _) _⟩
theorem head_any (k : Nat) (hk : k ≤ 255) (w : World) :
    Calls Try.prog 16 #[.int .i64 k] w (StrPost w.heap.size w (headB k)) := by
  have h := head_c (UInt8.ofNat k) w
  rw [show ((UInt8.ofNat k).toNat : Int) = (k : Int) from by rw [UInt8.toNat_ofNat']; omega] at h
  exact h

/-- Four bytes, so many of them laid. -/
def fourV (x k : Nat) : Nat → Value := fun j => .int .u8 (if j < k then ((x / 256 ^ j % 256 : Nat) : Int) else 0)
theorem fourV_step {w : World} {b t x k : Nat} (h : w.rowIs b t 4 (fourV x k)) : (w.setCell ⟨b, k, none⟩ (.int .u8 ((x / 256 ^ k % 256 : Nat) : Int))).rowIs b t 4 (fourV x (k + 1)) := by
  refine (h.set k _).congr fun j _ => ?_
  unfold fourV
  by_cases e : j = k
  · subst e
    rw [if_pos rfl, if_pos (by omega)]
  · rw [if_neg e]
    by_cases hlt : j < k
    · rw [if_pos hlt, if_pos (by omega)]
    · rw [if_neg hlt, if_neg (by omega)]
theorem four_new (w : World) (x : Nat) : (w.alloc (.cells #[.int .u8 0, .int .u8 0, .int .u8 0, .int .u8 0] 49)).rowIs w.heap.size 49 4 (fourV x 0) := by
  refine World.rowIs_alloc w #[.int .u8 0, .int .u8 0, .int .u8 0, .int .u8 0] 49 (fourV x 0) ?_
  intro i hi
  have hi4 : i < 4 := hi
  match i, hi4 with
  | 0, _ => rfl
  | 1, _ => rfl
  | 2, _ => rfl
  | 3, _ => rfl
theorem four_byte (x k : Nat) : (x : Int) / 2 ^ (8 * k) % 256 = ((x / 256 ^ k % 256 : Nat) : Int) := by
  rw [show (256 : Nat) ^ k = 2 ^ (8 * k) from by rw [Nat.pow_mul]]
  rw [Int.natCast_emod, Int.natCast_ediv]
  simp
theorem four_conv (w : World) (b t x : Nat) (h : w.rowIs b t 4 (fourV x 4)) : (convert 37 9 (.slice (some ⟨b, 0, none⟩) 4 4)).run Try.prog w = .ok (.string ⟨(Pl.le4 x).toArray⟩) w := by
  refine run_convert_bytes_back (P := Try.prog) w 37 9 5 ⟨b, 0, none⟩ 4 (Pl.le4 x) Try.underlying37 Try.underlying5 Try.underlying9 ?_
  intro j hj
  have hj4 : j < 4 := hj
  rw [Addr.add_lit, Nat.zero_add, h.cell hj4]
  unfold fourV
  rw [if_pos hj4]
  match j, hj4 with
  | 0, _ => simp [Pl.le4]
  | 1, _ => simp [Pl.le4]
  | 2, _ => simp [Pl.le4]
  | 3, _ => simp [Pl.le4]

set_option maxRecDepth 100000 in
set_option maxHeartbeats 1000000 in
theorem tail_any (s : ByteArray) (hsz : s.size ≤ 9223372036854775807) (w : World) :
    Calls Try.prog 18 #[.string s] w (StrPost w.heap.size w (tailB s.data.toList)) := by
  have hx := Pl.crc_lt s.data.toList
  have hc := Lib.hid (sum_any s w hsz)
  unfold tailB
  generalize Pl.crc s.data.toList = x at *
  go_enter Try.func18, Try.ntmps18
  go_wp2_with (refine hc.out.mono ?_; rintro e w' ⟨rfl, rfl⟩)
  go_loopg [8] 4 (fun g i wx => ∃ k : Nat, k ≤ 4 ∧ g = 4 - k ∧ i = .int .i64 k ∧ wx.rowIs w.heap.size 49 4 (fourV x k) ∧ Below w.heap.size w wx)
  case atStart => exact ⟨0, by omega, rfl, rfl, four_new w x, (Below.refl _ _).alloc (Nat.le_refl _) _⟩
  case round =>
    obtain ⟨k, hk, rfl, rfl, hrow, hb⟩ := hrel
    by_cases hk4 : k < 4
    · have h1 := hrow.cell hk4
      have h2 := hrow.frozen k
      have h3 := four_byte x k
      have hst := Lib.hid (fourV_step hrow)
      have hbl := Lib.hid hb
      have i1 : (k : Int) < 4 := by omega
      clear hrow hb
      go_wp2_with fail
      trace_state
      go_roundg (4 - (k + 1))
      case rel => exact ⟨k + 1, by omega, rfl, by go_num, hst.out, hbl.out.setCell (Nat.le_refl _) _⟩
      case measure => omega
    · obtain rfl : k = 4 := by omega
      have hcv := four_conv _ _ _ _ hrow
      have hbl := Lib.hid hb
      clear hrow hb
      go_wp2_with fail
      go_ret
      exact ⟨rfl, hbl.out⟩
end Go.Proofs.Ytmflmckmamckfaa
