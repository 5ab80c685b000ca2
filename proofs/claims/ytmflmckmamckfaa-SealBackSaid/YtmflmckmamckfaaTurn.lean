/-
  What the document's Turn answers: the text with one bit turned.
-/
import Derived.Test.YtmflmckmamckfaaHold
namespace Go.Proofs.Ytmflmckmamckfaa
open Go.RowKit

theorem pick_byte : ∀ r : Fin 8, ∀ c : Fin 256, (c.val ^^^ 2 ^ r.val) < 256 ∧ (c.val ^^^ 2 ^ r.val) ≠ c.val := by decide +kernel

theorem turn_heap (w : World) (C : Array Value) (e : Nat) (f : Nat × Nat) : (w.drew.alloc (.cells C e f)).heap[w.heap.size]? = some (.cells C e f) := by
  show (w.heap.push _)[w.heap.size]? = _
  simp
theorem row_get (s : ByteArray) (cap p : Nat) (hp : p < s.size) : (bytesRow s cap)[p]? = some (.int .u8 s[p].toNat) := by
  unfold bytesRow
  rw [Array.getElem?_append_left (by simpa using hp)]
  have hp2 : p < s.data.size := hp
  rw [Array.getElem?_map, Array.getElem?_eq_getElem hp2]
  rfl
theorem turn_cell (w : World) (s : ByteArray) (cap p : Nat) (hp : p < s.size) (e : Nat) :
    (w.drew.alloc (.cells (bytesRow s cap) e ((bytesRow s cap).size, (bytesRow s cap).size + 1))).cell? ⟨w.heap.size, p, none⟩ = some (.int .u8 s[p].toNat) := by
  have hb := turn_heap w (bytesRow s cap) e ((bytesRow s cap).size, (bytesRow s cap).size + 1)
  have hr := row_get s cap p hp
  simp only [World.cell?, hb]
  exact hr
theorem turn_frozen (w : World) (s : ByteArray) (cap p : Nat) (hp : p < s.size) (e : Nat) :
    (w.drew.alloc (.cells (bytesRow s cap) e ((bytesRow s cap).size, (bytesRow s cap).size + 1))).frozen? ⟨w.heap.size, p, none⟩ = false := by
  have hz : s.size ≤ (bytesRow s cap).size := by simp [bytesRow]
  have hb := turn_heap w (bytesRow s cap) e ((bytesRow s cap).size, (bytesRow s cap).size + 1)
  simp only [World.frozen?, hb]
  simp
  omega
/-- The bytes with one of them set, read back. -/
theorem turn_conv (w1 : World) (b cap : Nat) (s : ByteArray) (p : Nat) (d : UInt8) (hp : p < s.size) (hc : ∀ j (h : j < s.size), w1.cell? ⟨b, j, none⟩ = some (.int .u8 s[j].toNat)) :
    (convert 37 9 (.slice (some ⟨b, 0, none⟩) s.size cap)).run Try.prog (w1.setCell ⟨b, p, none⟩ (.int .u8 (d.toNat : Int))) = .ok (.string ⟨(s.data.toList.set p d).toArray⟩) (w1.setCell ⟨b, p, none⟩ (.int .u8 (d.toNat : Int))) := by
  have hl : (s.data.toList.set p d).length = s.size := by simp
  have h := run_convert_bytes_back (P := Try.prog) (w1.setCell ⟨b, p, none⟩ (.int .u8 (d.toNat : Int))) 37 9 5 ⟨b, 0, none⟩ cap (s.data.toList.set p d) Try.underlying37 Try.underlying5 Try.underlying9 (by
    intro j hj
    have hj2 : j < s.size := by rw [hl] at hj; exact hj
    rw [Addr.add_lit, Nat.zero_add]
    by_cases e : j = p
    · subst e
      rw [World.cell?_setCell_same _ _ _ (hc j hj2)]
      simp
    · rw [World.cell?_setCell_other _ _ _ _ (fun h => e (by have := congrArg Addr.off h; simpa using this.symm)), hc j hj2, List.getElem_set_ne (fun h => e h.symm)]
      rfl)
  rw [hl] at h
  exact h

set_option maxRecDepth 100000 in
set_option maxHeartbeats 1000000 in
theorem turn_any (s : ByteArray) (hsz : s.size ≤ 140737488355328) (p r : Nat) (hp : p < s.size) (hr : r < 8) (w : World) :
    Calls Try.prog 14 #[.string s, .int .i64 ((8 * p + r : Nat) : Int)] w (StrPost w.heap.size w (s.data.toList.set p (UInt8.ofNat (s[p].toNat ^^^ 2 ^ r)))) := by
  have hcv := run_bytes_of_string (P := Try.prog) w 9 37 5 s Try.underlying9 Try.underlying37 Try.underlying5
  obtain ⟨q, hq⟩ : ∃ q : Nat, q = 8 * p + r := ⟨_, rfl⟩
  rw [← hq]
  have d1 : ((q : Int)).tdiv 8 = (p : Int) := by rw [Int.tdiv_eq_ediv_of_nonneg (by omega)]; omega
  have d2 : ((q : Int)).tmod 8 = (r : Int) := by rw [Int.tmod_eq_emod_of_nonneg (by omega)]; omega
  have d3 : (q : Int) / 8 = (p : Int) := by omega
  have d4 : (q : Int) % 8 = (r : Int) := by omega
  have b1 : (q : Int) < 8 * (s.size : Int) := by omega
  have b2 : (0 : Int) ≤ (q : Int) := by omega
  have b3 : (r : Int) < 8 := by omega
  have b4 : (p : Int) < (s.size : Int) := by omega
  have hcl : Hid (∀ j (h : j < s.size), _) := fun j h => turn_cell w s (grownCap w s.size 0 5) j h 5
  have hc := turn_cell w s (grownCap w s.size 0 5) p hp 5
  have hf := turn_frozen w s (grownCap w s.size 0 5) p hp 5
  have hbl : Hid (Below w.heap.size w (w.drew.alloc (.cells (bytesRow s (grownCap w s.size 0 5)) 5 ((bytesRow s (grownCap w s.size 0 5)).size, (bytesRow s (grownCap w s.size 0 5)).size + 1)))) := (Below.refl _ _).drew.alloc (Nat.le_refl _) _
  generalize w.drew.alloc (.cells (bytesRow s (grownCap w s.size 0 5)) 5 ((bytesRow s (grownCap w s.size 0 5)).size, (bytesRow s (grownCap w s.size 0 5)).size + 1)) = w1 at *
  generalize grownCap w s.size 0 5 = cap at *
  have hp8 := pick_byte ⟨r, hr⟩ ⟨s[p].toNat, s[p].toNat_lt⟩
  simp only at hp8
  have hx := u8_xor_nat s[p].toNat (2 ^ r) s[p].toNat_lt (Nat.lt_of_le_of_lt (Nat.pow_le_pow_right (by omega) (by omega : r ≤ 7)) (by omega))
  have hd : ((s[p].toNat ^^^ 2 ^ r : Nat) : Int) = ((UInt8.ofNat (s[p].toNat ^^^ 2 ^ r)).toNat : Int) := by rw [UInt8.toNat_ofNat']; omega
  rw [hd] at hx
  have hlt : 2 ^ r < 256 := Nat.lt_of_le_of_lt (Nat.pow_le_pow_right (by omega) (by omega : r ≤ 7)) (by omega)
  have he : (2 : Int) ^ r % 256 = ((2 ^ r : Nat) : Int) := by
    rw [show (2 : Int) ^ r = ((2 ^ r : Nat) : Int) from by simp]
    exact Int.emod_eq_of_lt (Int.natCast_nonneg _) (Int.ofNat_lt.2 hlt)
  rw [← he] at hx
  clear hd hp8 hlt he
  generalize UInt8.ofNat (s[p].toNat ^^^ 2 ^ r) = d at *
  have hback := turn_conv w1 w.heap.size cap s p d hp hcl.out
  clear hq
  go_enter Try.func14, Try.ntmps14
  go_wp2_with fail
  go_ret
  exact ⟨rfl, hbl.out.setCell (Nat.le_refl _) _⟩
end Go.Proofs.Ytmflmckmamckfaa
