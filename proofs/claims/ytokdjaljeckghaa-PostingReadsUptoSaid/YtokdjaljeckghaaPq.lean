/-
  Reading plainly, list by list, as the program goes.
-/
import Derived.Test.YtokdjaljeckghaaPp
namespace Go.Proofs.Ytokdjaljeckghaa
open Go.RowKit
namespace Pt
/-- What is left behind so many lists. -/
def st (s : List UInt8) : Nat → List UInt8
  | 0 => s
  | k + 1 => (st s k).drop (Bp.rdPack (st s k)).2.1
def er (s : List UInt8) (k : Nat) : Int := (Bp.rdPack (st s k)).2.2
def nu (s : List UInt8) (k : Nat) : List Nat := (Bp.rdPack (st s k)).1
theorem rd_le (s : List UInt8) : (Bp.rdPack s).2.1 ≤ s.length := by
  obtain ⟨l, z, e, hr⟩ : ∃ l z e, Bp.rdPack s = (l, z, e) := ⟨_, _, _, rfl⟩
  obtain ⟨_, h2, h3⟩ := Bp.pack_one s l z e hr
  rw [hr]
  show z ≤ _
  by_cases h : e = 0
  · exact (h3 h).1
  · rw [(h2 h).2]
    exact Nat.zero_le _
theorem st_length (s : List UInt8) (k : Nat) : (st s k).length ≤ s.length := by
  induction k with
  | zero => exact Nat.le_refl _
  | succ k ih =>
    show ((st s k).drop _).length ≤ _
    rw [List.length_drop]
    omega
theorem read_st (s : List UInt8) : read s = if er s 0 ≠ 0 then ([], er s 0) else if er s 1 ≠ 0 then ([], er s 1) else if er s 2 ≠ 0 then ([], er s 2) else if st s 3 ≠ [] then ([], 5) else mk (nu s 0) (nu s 1) (nu s 2) := by
  have e2 : s.drop ((Bp.rdPack s).2.1 + (Bp.rdPack (s.drop (Bp.rdPack s).2.1)).2.1) = st s 2 := by
    show _ = (s.drop _).drop _
    rw [List.drop_drop]
    rfl
  have l0 := rd_le s
  have l1 := rd_le (st s 1)
  have l2 := rd_le (st s 2)
  have n1 : (st s 1).length = s.length - (Bp.rdPack s).2.1 := List.length_drop
  have n2 : (st s 2).length = (st s 1).length - (Bp.rdPack (st s 1)).2.1 := List.length_drop
  have n3 : (st s 3).length = (st s 2).length - (Bp.rdPack (st s 2)).2.1 := List.length_drop
  have hq : ((Bp.rdPack s).2.1 + (Bp.rdPack (st s 1)).2.1 + (Bp.rdPack (st s 2)).2.1 < s.length) ↔ st s 3 ≠ [] := by
    rw [← List.length_pos_iff]
    omega
  unfold read
  rw [e2]
  show (if er s 0 ≠ 0 then ([], er s 0) else if er s 1 ≠ 0 then ([], er s 1) else if er s 2 ≠ 0 then ([], er s 2) else if (Bp.rdPack s).2.1 + (Bp.rdPack (st s 1)).2.1 + (Bp.rdPack (st s 2)).2.1 < s.length then ([], 5) else mk (nu s 0) (nu s 1) (nu s 2)) = _
  simp only [hq]
/-- Whether one of the first lists claims too much. -/
def anyM (s : List UInt8) : Nat → Bool
  | 0 => false
  | k + 1 => anyM s k || decide (many k (st s k))
/-- The numbers that the program holds of a list. -/
def hel (s : List UInt8) (k : Nat) : List Int := if many k (st s k) then [] else (nu s k).map Int.ofNat
theorem nu_lt {s : List UInt8} {k : Nat} (h : er s k = 0) : ∀ x ∈ nu s k, x < 9223372036854775808 := ((Bp.pack_one (st s k) _ _ _ rfl).2.2 h).2.1
theorem nu_len {s : List UInt8} {k : Nat} (h : er s k = 0) (hm : ¬ many k (st s k)) : ((nu s k).length : Int) ≤ 1048576 + if k = 2 then 8 * (s.length : Int) else 0 := by
  have h1 := rdPack_claim h
  have h2 := st_length s k
  unfold many at hm
  unfold nu
  rw [h1]
  split at hm
  · rename_i e
    rw [if_pos e]
    omega
  · rename_i e
    rw [if_neg e]
    omega
theorem mk_any {s : List UInt8} (h0 : er s 0 = 0) (h2 : er s 2 = 0) (h1 : er s 1 = 0) (hm : anyM s 3 = true) : mk (nu s 0) (nu s 1) (nu s 2) = ([], 3) := by
  refine mk_many (nu_lt h0) (nu_lt h2) ?_
  have c0 := rdPack_claim h0
  have c1 := rdPack_claim h1
  have c2 := rdPack_claim h2
  have z2 := rdPack_nz h2
  simp only [anyM, Bool.false_or, Bool.or_eq_true, decide_eq_true_eq] at hm
  unfold many at hm
  simp only [show ¬ (0 = 2) by decide, show ¬ (1 = 2) by decide, if_false, if_true] at hm
  unfold nu
  rcases hm with (hm | hm) | hm
  · left; omega
  · right; left; omega
  · right; right; omega
/-- Where none claims too much: what the three lists are. -/
theorem mk_fit (a b c : List Nat) : mk a b c = if fit (a.map Int.ofNat) b (c.map Int.ofNat) = true ∧ ∃ t, cut b (c.map Int.ofNat) = some t ∧ chk (-1) (List.zipWith Po.mk (sm 0 (a.map Int.ofNat)) t) = 0 then (List.zipWith Po.mk (sm 0 (a.map Int.ofNat)) ((cut b (c.map Int.ofNat)).getD []), 0) else ([], 3) := by
  unfold mk fit
  rw [List.length_map]
  by_cases hl : a.length = b.length
  · rw [if_neg (by simpa using hl)]
    cases hc : cut b (c.map Int.ofNat) with
    | none => simp
    | some t =>
      by_cases hk : chk (-1) (List.zipWith Po.mk (sm 0 (a.map Int.ofNat)) t) = 0
      · simp [hl, hk]
      · simp [hl, hk]
  · rw [if_pos (by simpa using hl)]
    simp [hl]
end Pt
end Go.Proofs.Ytokdjaljeckghaa
