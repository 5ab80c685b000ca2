/-
  More numbers than postings may have: such bytes are no postings; a block read as a list of its own.
-/
import Derived.Test.YtokdjaljeckghaaPa
namespace Go.Proofs.Ytokdjaljeckghaa
open Go.RowKit
namespace Pt
/-- How many numbers aren't 0. -/
def nz (l : List Nat) : Nat := l.countP (fun x => decide (x ≠ 0))
theorem nz_le (l : List Nat) : nz l ≤ l.length := List.countP_le_length
theorem nz_append (a b : List Nat) : nz (a ++ b) = nz a + nz b := List.countP_append
theorem nz_cons (x : Nat) (r : List Nat) : nz (x :: r) = nz r + if x ≠ 0 then 1 else 0 := by
  unfold nz
  rw [List.countP_cons]
  simp
theorem nz_zero {l : List Nat} (h : ∀ x ∈ l, x = 0) : nz l = 0 := by
  unfold nz
  rw [List.countP_eq_zero]
  intro x hx
  simp [h x hx]
theorem blk_nz {l : List Nat} (h : ∀ x ∈ l, x < 9223372036854775808) : nz l ≤ 8 * (Bp.blkB l).length := by
  rw [Bp.blkB_length]
  have hm := Bp.wd_mem l h
  by_cases h0 : Bp.wd l = 0
  · rw [nz_zero (fun x hx => by have := hm x hx; rw [h0] at this; omega)]
    omega
  · have h1 := nz_le l
    have h2 : l.length ≤ Bp.wd l * l.length := Nat.le_mul_of_pos_left _ (by omega)
    unfold Bp.long
    omega
theorem chB_nz : ∀ (k : Nat) (l : List Nat), l.length ≤ k → (∀ x ∈ l, x < 9223372036854775808) → nz l ≤ 8 * (Bp.chB k l).length
  | 0, l, h, _ => by
    have := nz_le l
    omega
  | k + 1, l, h, hl => by
    unfold Bp.chB
    by_cases h0 : l.length = 0
    · have := nz_le l
      omega
    · rw [if_neg h0, List.length_append]
      have h1 := blk_nz (l := l.take 128) (fun x hx => hl x (List.mem_of_mem_take hx))
      have h2 := chB_nz k (l.drop 128) (by rw [List.length_drop]; omega) (fun x hx => hl x (List.mem_of_mem_drop hx))
      have h3 : nz l = nz (l.take 128) + nz (l.drop 128) := by rw [← nz_append, List.take_append_drop]
      omega
theorem packB_nz {l : List Nat} (hl : ∀ x ∈ l, x < 9223372036854775808) : nz l ≤ 8 * (Bp.packB l).length := by
  unfold Bp.packB
  rw [List.length_append]
  have := chB_nz l.length l (Nat.le_refl _) hl
  omega
/-- How many numbers there are, at most, where they go up. -/
theorem up_len : ∀ {l : List Int} {p M : Int}, Up p l → (∀ x ∈ l, x < M) → p < M → (l.length : Int) ≤ M - p - 1
  | [], p, M, _, _, h => by simp only [List.length_nil]; omega
  | x :: r, p, M, hu, hb, _ => by
    have hx := hb x (List.mem_cons_self ..)
    have hp : p < x := hu.1
    have := up_len (l := r) (p := x) (M := M) hu.2 (fun y hy => hb y (List.mem_cons_of_mem _ hy)) hx
    rw [List.length_cons]
    omega
theorem chk_len {l : List Po} (h : chk (-1) l = 0) : l.length ≤ 1048576 := by
  have := up_len (M := 1048576) (chk_up h) (fun x hx => by
    obtain ⟨p, hp, rfl⟩ := List.mem_map.1 hx
    have := chk_mem h p hp
    omega) (by omega)
  rw [List.length_map] at this
  omega
theorem chkA_len {l : List Int} (h : chkA (-1) l = 0) : l.length ≤ 4096 := by
  have := up_len (M := 4096) (chkA_up h) (fun x hx => (chkA_mem h x hx).2) (by omega)
  omega
/-- Behind the first place no difference is 0. -/
theorem dl_nz : ∀ {l : List Int} {a : Int}, 0 ≤ a → a < 4096 → Up a l → (∀ x ∈ l, 0 ≤ x ∧ x < 4096) → nz ((dl a l).map Int.toNat) = l.length
  | [], _, _, _, _, _ => rfl
  | x :: r, a, h0, h1, hu, hb => by
    have hx := hb x (List.mem_cons_self ..)
    have ha : a < x := hu.1
    have ih := dl_nz (l := r) (a := x) (by omega) (by omega) hu.2 (fun y hy => hb y (List.mem_cons_of_mem _ hy))
    show nz ((wrap64 (x - a)).toNat :: (dl x r).map Int.toNat) = _
    rw [nz_cons, ih, show wrap64 (x - a) = x - a from by unfold wrap64; omega, if_pos (by omega), List.length_cons]
theorem ats_nz {l : List Int} (h : chkA (-1) l = 0) : l.length ≤ nz ((dl 0 l).map Int.toNat) + 1 := by
  cases l with
  | nil => exact Nat.zero_le _
  | cons x r =>
    have hm := chkA_mem h
    have hu := chkA_up h
    have hx := hm x (List.mem_cons_self ..)
    have := dl_nz (l := r) (a := x) (by omega) (by omega) hu.2 (fun y hy => hm y (List.mem_cons_of_mem _ hy))
    show _ ≤ nz ((wrap64 (x - 0)).toNat :: (dl x r).map Int.toNat) + 1
    rw [nz_cons, this, List.length_cons]
    omega
theorem plcs_nz {d : Int} : ∀ {l : List Po}, chk d l = 0 → (plcs l).length ≤ nz ((plcs l).map Int.toNat) + l.length
  | [], _ => Nat.zero_le _
  | p :: r, h => by
    obtain ⟨_, _, _, _, h5, h6⟩ := chk_cons h
    have ih := plcs_nz h6
    have h1 := ats_nz h5
    have e : plcs (p :: r) = dl 0 p.ats ++ plcs r := rfl
    rw [e, List.map_append, nz_append, List.length_append, dl_length, List.length_cons]
    omega
/-- Lists of more numbers than postings may have are of no postings. -/
theorem mk_many {a b c : List Nat} (ha : ∀ x ∈ a, x < 9223372036854775808) (hc : ∀ x ∈ c, x < 9223372036854775808) (h : 1048576 < a.length ∨ 1048576 < b.length ∨ 1048576 + nz c < c.length) : mk a b c = ([], 3) := by
  obtain ⟨l, e, hm⟩ : ∃ l e, mk a b c = (l, e) := ⟨_, _, rfl⟩
  obtain ⟨h1, h2⟩ := mk_err hm
  rcases h1 with rfl | rfl
  · obtain ⟨g1, g2, g3, g4⟩ := mk_one ha hc hm
    have hl := chk_len g1
    have e1 : a.length = l.length := by rw [← g2]; unfold docs; rw [List.length_map, dl_length, List.length_map]
    have e2 : b.length = l.length := by rw [← g3]; unfold cnts; rw [List.length_map]
    have e3 := plcs_nz g1
    rw [g4] at e3
    have e4 : c.length = (plcs l).length := by rw [← g4, List.length_map]
    omega
  · rw [hm, h2 (by omega)]
/-- How many numbers bytes say that they hold, 0 where that can't be read. -/
def claim (s : List UInt8) : Int := (Pl.rdCount s).1
theorem rdPack_claim {s : List UInt8} (h : (Bp.rdPack s).2.2 = 0) : ((Bp.rdPack s).1.length : Int) = claim s := ((Bp.pack_one s _ _ _ rfl).2.2 h).2.2.2
theorem rdPack_nz {s : List UInt8} (h : (Bp.rdPack s).2.2 = 0) : nz (Bp.rdPack s).1 ≤ 8 * s.length := by
  obtain ⟨_, _, h3⟩ := Bp.pack_one s _ _ _ rfl
  obtain ⟨i1, i2, i3, _⟩ := h3 h
  have h1 := packB_nz i2
  rw [i3] at h1
  have h2 : (s.take (Bp.rdPack s).2.1).length ≤ s.length := List.length_take_le' ..
  exact Nat.le_trans h1 (Nat.mul_le_mul_left 8 h2)
/-- Whether a list of a kind claims too many numbers. -/
def many (k : Nat) (s : List UInt8) : Prop := (1048576 + if k = 2 then 8 * (s.length : Int) else 0) < claim s
instance (k : Nat) (s : List UInt8) : Decidable (many k s) := by unfold many; infer_instance
/-- Where a block ends. -/
def ends (n : Nat) : List UInt8 → Nat
  | [] => 0
  | c :: t => Nat.min (t.length + 1) (1 + (n * c.toNat + 7) / 8)
theorem blk_cut (n : Nat) (s : List UInt8) : Bp.rdBlk n (s.take (ends n s)) = Bp.rdBlk n s := by
  cases s with
  | nil => rfl
  | cons c t =>
    have hl : Bp.long c.toNat n = (n * c.toNat + 7) / 8 := by unfold Bp.long; rw [Nat.mul_comm]
    show Bp.rdBlk n ((c :: t).take (Nat.min (t.length + 1) (1 + (n * c.toNat + 7) / 8))) = _
    rw [← hl]
    rcases Nat.lt_or_ge t.length (Bp.long c.toNat n) with h | h
    · rw [show Nat.min (t.length + 1) (1 + Bp.long c.toNat n) = t.length + 1 from Nat.min_eq_left (by omega), List.take_of_length_le (by simp)]
    · rw [show Nat.min (t.length + 1) (1 + Bp.long c.toNat n) = Bp.long c.toNat n + 1 from (Nat.min_eq_right (by omega)).trans (by omega), List.take_succ_cons]
      simp only [Bp.rdBlk]
      rw [List.take_take, Nat.min_self, List.length_take, Nat.min_eq_left h, if_neg (Nat.lt_irrefl _), if_neg (Nat.not_lt.2 h)]
theorem blk_ends (n : Nat) (s : List UInt8) (h : (Bp.rdBlk n s).2.2 = 0) : (Bp.rdBlk n s).2.1 = ends n s := by
  cases s with
  | nil => cases h
  | cons c t =>
    have hl : Bp.long c.toNat n = (n * c.toNat + 7) / 8 := by unfold Bp.long; rw [Nat.mul_comm]
    show _ = Nat.min (t.length + 1) (1 + (n * c.toNat + 7) / 8)
    rw [← hl]
    simp only [Bp.rdBlk] at h ⊢
    by_cases h1 : 63 < c.toNat
    · rw [if_pos h1] at h
      cases h
    · rw [if_neg h1] at h ⊢
      by_cases h2 : t.length < Bp.long c.toNat n
      · rw [if_pos h2] at h
        cases h
      · rw [if_neg h2] at h ⊢
        by_cases h3 : Bp.wd (Bp.unpk c.toNat n (Pl.num (t.take (Bp.long c.toNat n)))) = c.toNat ∧ Pl.num (t.take (Bp.long c.toNat n)) < 2 ^ (c.toNat * n)
        · rw [if_pos h3]
          show 1 + Bp.long c.toNat n = _
          exact (Nat.min_eq_right (by omega)).symm
        · rw [if_neg h3] at h
          cases h
/-- A block as a list of its own. -/
theorem one_block (n : Nat) (s : List UInt8) (h0 : 0 < n) (h1 : n ≤ 128) : Bp.rdPack (Pl.numB n ++ s.take (ends n s)) = if (Bp.rdBlk n s).2.2 ≠ 0 then ([], 0, (Bp.rdBlk n s).2.2) else ((Bp.rdBlk n s).1, (Pl.numB n).length + (Bp.rdBlk n s).2.1, 0) := by
  obtain ⟨k, rfl⟩ : ∃ k, n = k + 1 := ⟨n - 1, by omega⟩
  unfold Bp.rdPack
  rw [Iv.count_back (k + 1) _ (by omega)]
  simp only [ne_eq, not_true, if_false, Int.toNat_natCast]
  rw [List.drop_left' rfl]
  simp only [Bp.rdCh]
  rw [if_neg (by omega), show Nat.min (k + 1) 128 = k + 1 from Nat.min_eq_left h1, blk_cut]
  by_cases h : (Bp.rdBlk (k + 1) s).2.2 = 0
  · rw [if_neg (by simpa using h), if_neg (by simpa using h), Nat.sub_self]
    cases k with
    | zero => simp only [Bp.rdCh, List.nil_append]
    | succ k => simp only [Bp.rdCh, if_true, List.nil_append]
  · rw [if_pos h, if_pos h]
end Pt
end Go.Proofs.Ytokdjaljeckghaa
