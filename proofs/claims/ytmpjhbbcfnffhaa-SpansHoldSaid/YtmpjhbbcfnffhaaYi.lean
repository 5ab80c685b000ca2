/-
  The document's own Count, Fits, Holds, Characters and Bytes over rows.
-/
import Derived.Test.YtmpjhbbcfnffhaaYh
import Derived.Test.YtmpjhbbcfnffhaaUg
import Derived.Deep.QuietTactic
import Derived.BigQuiet
namespace Go.Proofs.Ytmpjhbbcfnffhaa
open Go.RowKit

namespace Sp
theorem cnt_snoc (l : List (Int × Int)) (x : Int × Int) : cnt (l ++ [x]) = cnt l * (x.2 - x.1 + 1) := by
  unfold cnt
  rw [List.foldl_append]
  rfl
theorem cnt_bd : ∀ (n : Nat) (l : List (Int × Int)), l.length = n → (∀ x ∈ l, 0 ≤ x.1 ∧ x.1 ≤ x.2 ∧ x.2 ≤ 255) → 1 ≤ cnt l ∧ cnt l ≤ 256 ^ n
  | 0, l, h, _ => by
    obtain rfl := List.length_eq_zero_iff.1 h
    decide
  | n + 1, l, h, hx => by
    obtain ⟨t, x, rfl⟩ : ∃ t x, l = t ++ [x] := ⟨l.dropLast, l.getLast (by intro e; rw [e] at h; simp at h), (List.dropLast_concat_getLast _).symm⟩
    have h2 := hx x (by simp)
    obtain ⟨i1, i2⟩ := cnt_bd n t (by simpa using h) fun y hy => hx y (by simp [hy])
    rw [cnt_snoc, Int.pow_succ]
    constructor
    · have := Int.mul_le_mul i1 (show (1 : Int) ≤ x.2 - x.1 + 1 by omega) (by omega) (by omega)
      omega
    · exact Int.mul_le_mul i2 (by omega) (by omega) (by omega)
theorem fits_iff : ∀ (r : List (Int × Int)) (l : List UInt8), fits r l = true ↔ r.length = l.length ∧ ∀ i (h1 : i < r.length) (h2 : i < l.length), r[i].1 ≤ ((l[i]).toNat : Int) ∧ ((l[i]).toNat : Int) ≤ r[i].2
  | [], [] => by simp [fits]
  | [], _ :: _ => by simp [fits]
  | _ :: _, [] => by simp [fits]
  | r :: rs, c :: cs => by
    have ih := fits_iff rs cs
    show (decide _ && fits rs cs) = true ↔ _
    rw [Bool.and_eq_true, decide_eq_true_iff, ih]
    constructor
    · rintro ⟨h1, h2, h3⟩
      refine ⟨by simp [h2], fun i a b => ?_⟩
      cases i with
      | zero => exact h1
      | succ i => exact h3 i (by simpa using a) (by simpa using b)
    · rintro ⟨h1, h2⟩
      exact ⟨h2 0 (by simp) (by simp), by simpa using h1, fun i a b => h2 (i + 1) (by simpa using a) (by simpa using b)⟩
end Sp
theorem RowG.cells {w : World} {g : Nat} {r : List (Int × Int)} (h : RowG w g r) (k : Nat) (hk : k < r.length) : w.cell? ⟨g, k * 2, none⟩ = some (.int .i64 r[k].1) ∧ w.cell? ⟨g, k * 2 + 1, none⟩ = some (.int .i64 r[k].2) := by
  have a := World.rowIs.cell h (i := k * 2) (by omega)
  have b := World.rowIs.cell h (i := k * 2 + 1) (by omega)
  rw [Sp.cellAt_lo r k hk] at a
  rw [Sp.cellAt_hi r k hk] at b
  exact ⟨a, b⟩
theorem RowG.below {w w' : World} {B g : Nat} {r : List (Int × Int)} (h : RowG w g r) (hb : Below B w w') (hB : g < B) : RowG w' g r := h.of_block (hb.block g hB)

set_option maxRecDepth 100000 in
set_option maxHeartbeats 1000000 in
theorem count_any (w : World) (g : Nat) (r : List (Int × Int)) (n : Nat) (hn : r.length = n) (h : RowG w g r) (h4 : n ≤ 4) (hr : ∀ x ∈ r, 0 ≤ x.1 ∧ x.1 ≤ x.2 ∧ x.2 ≤ 255) :
    Calls Try.prog 7 #[.slice (some ⟨g, 0, none⟩) n n] w fun e w' => e = .returned (.int .i64 (Sp.cnt r)) ∧ Below w.heap.size w w' := by
  have HN := Lib.hid hn
  have HG := Lib.hid h
  have HR := Lib.hid hr
  have hgl := h.lt
  clear hn h hr
  go_enter Try.func7, Try.ntmps7
  go_wp2_with fail
  go_loopg [3, 4] n (fun g c i wx => ∃ k : Nat, k ≤ n ∧ g = n - k ∧ i = .int .i64 k ∧ c = .int .i64 (Sp.cnt (r.take k)) ∧ Hid (Below w.heap.size w wx))
  case atStart => exact ⟨0, Nat.zero_le _, rfl, rfl, rfl, Below.refl _ _⟩
  case round =>
    obtain ⟨k, hk, rfl, rfl, rfl, hbel⟩ := hrel
    by_cases hkn : k < n
    · have i1 : (k : Int) < (n : Int) := by omega
      have hkr : k < r.length := by rw [HN.out]; exact hkn
      obtain ⟨c1, c2⟩ := (HG.out.below hbel.out hgl).cells k hkr
      have hx := HR.out r[k] (List.getElem_mem hkr)
      have hst := Sp.cnt_snoc (r.take k) r[k]
      rw [← List.take_succ_eq_append_getElem hkr] at hst
      have hbd := Sp.cnt_bd k (r.take k) (by rw [List.length_take]; omega) fun x hx => HR.out x (List.mem_of_mem_take hx)
      have hbd2 : Sp.cnt (r.take k) ≤ 4294967296 := by
        refine Int.le_trans hbd.2 ?_
        have hk4 : k = 0 ∨ k = 1 ∨ k = 2 ∨ k = 3 := by omega
        rcases hk4 with rfl | rfl | rfl | rfl <;> decide
      have hbd1 := hbd.1
      obtain ⟨x1, x2, x3⟩ := hx
      have hmul : 0 ≤ Sp.cnt (r.take k) * (r[k].2 - r[k].1 + 1) := Int.mul_nonneg (by omega) (by omega)
      have hmul2 : Sp.cnt (r.take k) * (r[k].2 - r[k].1 + 1) ≤ 4294967296 * 256 := Int.mul_le_mul hbd2 (by omega) (by omega) (by omega)
      have HST := Lib.hid hst
      clear hst hbd
      generalize Sp.cnt (r.take k) = C at *
      generalize r[k].1 = lo at *
      generalize r[k].2 = hi at *
      have s1 : IntKind.i64.wrap (hi - lo) = hi - lo := IntWalk.i64_in _ (by omega)
      have s2 : IntKind.i64.wrap (hi - lo + 1) = hi - lo + 1 := IntWalk.i64_in _ (by omega)
      have s3 : IntKind.i64.wrap (C * (hi - lo + 1)) = C * (hi - lo + 1) := IntWalk.i64_in _ (by omega)
      go_wp2_with fail
      go_quiet (fail)
      go_wp2_with fail
      go_roundg (n - (k + 1))
      case rel => exact ⟨k + 1, by omega, rfl, by go_num, by rw [HST.out], belowN hbel.out _⟩
      case measure => omega
    · obtain rfl : k = n := by omega
      have e : r.take k = r := List.take_of_length_le (by rw [HN.out]; exact Nat.le_refl _)
      rw [e]
      clear e
      go_wp2_with fail
      go_ret
      exact ⟨rfl, hbel.out⟩

set_option maxRecDepth 100000 in
set_option maxHeartbeats 1000000 in
theorem fits_any (w : World) (g : Nat) (r : List (Int × Int)) (n : Nat) (hn : r.length = n) (h : RowG w g r) (h4 : n ≤ 4) (s : ByteArray) :
    Calls Try.prog 16 #[.slice (some ⟨g, 0, none⟩) n n, .string s] w fun e w' => e = .returned (.bool (Sp.fits r s.data.toList)) ∧ Below w.heap.size w w' := by
  have HN := Lib.hid hn
  have HG := Lib.hid h
  have hgl := h.lt
  have hsl : s.data.toList.length = s.size := by simp
  have HI := Lib.hid (Sp.fits_iff r s.data.toList)
  clear hn h
  by_cases hl : n = s.size
  · have HSL := Lib.hid hsl
    have HL := Lib.hid hl
    have e1 : ((n : Int) != (s.size : Int)) = false := by simp; omega
    clear hsl hl
    go_enter Try.func16, Try.ntmps16
    go_wp2_with fail
    clear e1
    go_loopg [5] n (fun g i wx => ∃ k : Nat, k ≤ n ∧ g = n - k ∧ i = .int .i64 k ∧ Hid (∀ i (h1 : i < r.length) (h2 : i < s.size), i < k → r[i].1 ≤ ((s[i]).toNat : Int) ∧ ((s[i]).toNat : Int) ≤ r[i].2) ∧ Hid (Below w.heap.size w wx))
    case atStart => exact ⟨0, Nat.zero_le _, rfl, rfl, fun i _ _ h => by omega, Below.refl _ _⟩
    case round =>
      obtain ⟨k, hk, rfl, rfl, hall, hbel⟩ := hrel
      by_cases hkn : k < n
      · have i0 : k < s.size := by rw [← HL.out]; exact hkn
        have i1 : (k : Int) < (s.size : Int) := by omega
        have i2 : (k : Int) < (n : Int) := by omega
        have hkr : k < r.length := by rw [HN.out]; exact hkn
        obtain ⟨c1, c2⟩ := (HG.out.below hbel.out hgl).cells k hkr
        have hNO : Hid (¬ (r[k].1 ≤ ((s[k]).toNat : Int) ∧ ((s[k]).toNat : Int) ≤ r[k].2) → Sp.fits r s.data.toList = false) := fun hh => by
          rw [← Bool.not_eq_true, HI.out]
          rintro ⟨_, h2⟩
          exact hh (h2 k hkr (by rw [HSL.out]; exact i0))
        have hYES : Hid ((r[k].1 ≤ ((s[k]).toNat : Int) ∧ ((s[k]).toNat : Int) ≤ r[k].2) → ∀ i (h1 : i < r.length) (h2 : i < s.size), i < k + 1 → r[i].1 ≤ ((s[i]).toNat : Int) ∧ ((s[i]).toNat : Int) ≤ r[i].2) := fun hh i h1 h2 hi => by
          by_cases e : i = k
          · subst e; exact hh
          · exact hall.out i h1 h2 (by omega)
        have wz : IntKind.i64.wrap ((s[k]).toNat : Int) = ((s[k]).toNat : Int) := IntWalk.i64_in _ (by have := (s[k]).toNat_lt; omega)
        clear hall
        by_cases q1 : ((s[k]).toNat : Int) < r[k].1
        · have hf : Hid (Sp.fits r s.data.toList = false) := hNO.out fun hh => by omega
          have d1 : decide (((s[k]).toNat : Int) < r[k].1) = true := decide_eq_true q1
          clear hNO hYES
          go_wp2_with fail
          go_quiet (fail)
          go_wp2_with fail
          go_ret
          exact ⟨ret_bool hf.out.symm, belowN hbel.out _⟩
        · have d1 : decide (((s[k]).toNat : Int) < r[k].1) = false := decide_eq_false q1
          by_cases q2 : r[k].2 < ((s[k]).toNat : Int)
          · have hf : Hid (Sp.fits r s.data.toList = false) := hNO.out fun hh => by omega
            have d2 : decide (r[k].2 < ((s[k]).toNat : Int)) = true := decide_eq_true q2
            clear hNO hYES
            go_wp2_with fail
            go_quiet (fail)
            go_wp2_with fail
            go_ret
            exact ⟨ret_bool hf.out.symm, belowN hbel.out _⟩
          · have d2 : decide (r[k].2 < ((s[k]).toNat : Int)) = false := decide_eq_false q2
            have hf := Lib.hid (hYES.out ⟨by omega, by omega⟩)
            clear hNO hYES
            go_wp2_with fail
            go_quiet (fail)
            go_wp2_with fail
            go_roundg (n - (k + 1))
            case rel => exact ⟨k + 1, by omega, rfl, by go_num, hf, belowN hbel.out _⟩
            case measure => omega
      · have hf : Hid (Sp.fits r s.data.toList = true) := by
          show _ = _
          rw [HI.out]
          exact ⟨by rw [HN.out, HSL.out, HL.out], fun i h1 h2 => hall.out i h1 (by rw [← HSL.out]; exact h2) (by have := HN.out; omega)⟩
        have i0 : s.size ≤ k := by have := HL.out; omega
        have i1 : (s.size : Int) ≤ (k : Int) := by omega
        clear hall
        go_wp2_with fail
        go_ret
        exact ⟨ret_bool hf.out.symm, hbel.out⟩
  · have hf : Hid (Sp.fits r s.data.toList = false) := by
      show _ = _
      rw [← Bool.not_eq_true, HI.out]
      rintro ⟨h1, _⟩
      rw [HN.out, hsl] at h1
      exact hl h1
    have e1 : ((n : Int) != (s.size : Int)) = true := by simp; omega
    clear hsl hl
    go_enter Try.func16, Try.ntmps16
    go_wp2_with fail
    go_ret
    exact ⟨ret_bool hf.out.symm, Below.refl _ _⟩
end Go.Proofs.Ytmpjhbbcfnffhaa
