/-
  Ranges of characters as rows of ranges of bytes, plainly: how a range is cut, what a row holds, how many rows there are; no program is named here.
-/
import Derived.Test.YtmpjhbbcfnffhaaUt
namespace Go.Proofs.Ytmpjhbbcfnffhaa.Sp
open Go.Lib

/-- The cuts: first and last character, bytes behind the first. -/
def cuts : List (Int × Int × Nat) := [(0, 127, 0), (128, 2047, 1), (2048, 55295, 2), (57344, 65535, 2), (65536, 1114111, 3)]
def pw (t : Nat) : Int := 64 ^ t
theorem pw0 : pw 0 = 1 := rfl
theorem pw1 : pw 1 = 64 := rfl
theorem pw2 : pw 2 = 4096 := rfl
theorem pw3 : pw 3 = 262144 := rfl
/-- How many bytes at the end turn whole: so many at most are still asked for. -/
def turns (c last : Int) : Nat → Nat → Nat
  | 0, t => t
  | n + 1, t => if c % pw (t + 1) = 0 ∧ c + (pw (t + 1) - 1) ≤ last then turns c last n (t + 1) else t
def endOf (c last : Int) (tails : Nat) : Int :=
  let t := turns c last tails 0
  let l := if t < tails then min last (c - c % pw (t + 1) + (pw (t + 1) - 1)) else last
  (l + 1) - (l + 1) % pw t - 1
/-- What a row that begins with a and ends with b is. -/
structure Good (f l : Int) (tails t : Nat) (a b : Int) : Prop where
  tl : t ≤ tails
  lo : f ≤ a
  hi : b ≤ l
  le : a ≤ b
  a0 : a % pw t = 0
  b0 : (b + 1) % pw t = 0
  pre : t < tails → a / pw (t + 1) = b / pw (t + 1)

theorem turns_le (c last : Int) : ∀ n t, t ≤ turns c last n t ∧ turns c last n t ≤ t + n
  | 0, t => ⟨Nat.le_refl _, Nat.le_refl _⟩
  | n + 1, t => by
    unfold turns
    split
    · have := turns_le c last n (t + 1); omega
    · omega
theorem turns_at (c last : Int) : ∀ n t, c % pw t = 0 ∧ c + (pw t - 1) ≤ last → c % pw (turns c last n t) = 0 ∧ c + (pw (turns c last n t) - 1) ≤ last
  | 0, t, h => h
  | n + 1, t, h => by
    unfold turns
    split
    · rename_i h2; exact turns_at c last n (t + 1) h2
    · exact h
theorem turns_no (c last : Int) : ∀ n t, turns c last n t < t + n → ¬ (c % pw (turns c last n t + 1) = 0 ∧ c + (pw (turns c last n t + 1) - 1) ≤ last)
  | 0, t, h => by simp [turns] at h
  | n + 1, t, h => by
    unfold turns at h ⊢
    split at h
    · rename_i h2
      rw [if_pos h2]
      exact turns_no c last n (t + 1) (by omega)
    · rename_i h2
      rw [if_neg h2]
      exact h2
/-- What the end of a row is. -/
theorem endOf_good (c last f l : Int) (tails : Nat) (ht : tails ≤ 3) (_h0 : 0 ≤ c) (hf : f ≤ c) (hc : c ≤ last) (hl : last ≤ l) :
    Good f l tails (turns c last tails 0) c (endOf c last tails) ∧ endOf c last tails ≤ last := by
  have h1 := turns_le c last tails 0
  have h2 := turns_at c last tails 0 ⟨by rw [pw0]; omega, by rw [pw0]; omega⟩
  unfold endOf
  generalize turns c last tails 0 = t at *
  have ht3 : t = 0 ∨ t = 1 ∨ t = 2 ∨ t = 3 := by omega
  by_cases hlt : t < tails
  · rcases ht3 with rfl | rfl | rfl | rfl
    · simp only [pw0, Nat.zero_add, pw1, hlt, if_true] at *
      refine ⟨⟨by omega, by omega, by omega, by omega, by rw [pw0]; omega, by rw [pw0]; omega, fun _ => by rw [Nat.zero_add, pw1]; omega⟩, by omega⟩
    · simp only [Nat.reduceAdd, pw1, pw2, hlt, if_true] at *
      refine ⟨⟨by omega, by omega, by omega, by omega, by rw [pw1]; omega, by rw [pw1]; omega, fun _ => by rw [pw2]; omega⟩, by omega⟩
    · simp only [Nat.reduceAdd, pw2, pw3, hlt, if_true] at *
      refine ⟨⟨by omega, by omega, by omega, by omega, by rw [pw2]; omega, by rw [pw2]; omega, fun _ => by rw [pw3]; omega⟩, by omega⟩
    · omega
  · obtain rfl : t = tails := by omega
    rcases ht3 with rfl | rfl | rfl | rfl
    all_goals
      simp only [pw0, pw1, pw2, pw3, Nat.lt_irrefl, if_false] at *
      refine ⟨⟨by omega, by omega, by omega, by omega, by simp only [pw0, pw1, pw2, pw3]; omega, by simp only [pw0, pw1, pw2, pw3]; omega, fun h => absurd h (Nat.lt_irrefl _)⟩, by omega⟩
/-- The rows from a character on, each by its first and its last one. -/
def seg (last : Int) (tails : Nat) : Nat → Int → List (Int × Int)
  | 0, _ => []
  | n + 1, c => if c ≤ last then (c, endOf c last tails) :: seg last tails n (endOf c last tails + 1) else []
def segs (c last : Int) (tails : Nat) : List (Int × Int) := seg last tails (last + 1 - c).toNat c
theorem seg_fuel (last : Int) (tails : Nat) (ht : tails ≤ 3) : ∀ n m c, 0 ≤ c → (last + 1 - c).toNat ≤ n → (last + 1 - c).toNat ≤ m → seg last tails n c = seg last tails m c
  | 0, 0, c, _, _, _ => rfl
  | 0, m + 1, c, _, h, _ => by unfold seg; rw [if_neg (by omega)]
  | n + 1, 0, c, _, _, h => by unfold seg; rw [if_neg (by omega)]
  | n + 1, m + 1, c, h0, h1, h2 => by
    unfold seg
    by_cases hc : c ≤ last
    · rw [if_pos hc, if_pos hc]
      obtain ⟨hg, he⟩ := endOf_good c last c last tails ht h0 (Int.le_refl _) hc (Int.le_refl _)
      have := hg.le
      rw [seg_fuel last tails ht n m (endOf c last tails + 1) (by omega) (by omega) (by omega)]
    · rw [if_neg hc, if_neg hc]
theorem segs_step (c last : Int) (tails : Nat) (ht : tails ≤ 3) (h0 : 0 ≤ c) : segs c last tails = if c ≤ last then (c, endOf c last tails) :: segs (endOf c last tails + 1) last tails else [] := by
  by_cases hc : c ≤ last
  · rw [if_pos hc]
    obtain ⟨hg, he⟩ := endOf_good c last c last tails ht h0 (Int.le_refl _) hc (Int.le_refl _)
    have := hg.le
    unfold segs
    obtain ⟨n, hn⟩ : ∃ n, (last + 1 - c).toNat = n + 1 := ⟨(last + 1 - c).toNat - 1, by omega⟩
    rw [hn]
    have e : seg last tails (n + 1) c = if c ≤ last then (c, endOf c last tails) :: seg last tails n (endOf c last tails + 1) else [] := rfl
    rw [e, if_pos hc, seg_fuel last tails ht n _ (endOf c last tails + 1) (by omega) (by omega) (Nat.le_refl _)]
  · rw [if_neg hc]
    unfold segs
    rw [show (last + 1 - c).toNat = 0 by omega]
    rfl
/-- All rows of a range. -/
def pairs (lo hi : Int) : List (Int × Int) := cuts.flatMap fun k => segs (max lo k.1) (min hi k.2.1) k.2.2
/-- A row: a range for each byte. -/
def rowOf (p : Int × Int) : List (Int × Int) := (encodeRuneZ p.1).zip (encodeRuneZ p.2)
def rows (lo hi : Int) : List (List (Int × Int)) := (pairs lo hi).map rowOf
/-- What holds of every row of a range of one cut, and each number of it in just one of them. -/
theorem segs_all (f l : Int) (tails : Nat) (ht : tails ≤ 3) (hf : 0 ≤ f) (last : Int) (hl : last ≤ l) : ∀ n c, f ≤ c → (last + 1 - c).toNat = n → ∀ p ∈ segs c last tails, c ≤ p.1 ∧ p.2 ≤ last ∧ ∃ t, Good f l tails t p.1 p.2 := by
  intro n
  induction n using Nat.strongRecOn with
  | _ n ih =>
    intro c hc hn p hp
    rw [segs_step c last tails ht (by omega)] at hp
    split at hp
    · rename_i h
      obtain ⟨hg, he⟩ := endOf_good c last f l tails ht (by omega) hc h hl
      have := hg.le
      rcases List.mem_cons.1 hp with rfl | hp
      · exact ⟨Int.le_refl _, he, _, hg⟩
      · obtain ⟨h1, h2⟩ := ih _ (by omega) (endOf c last tails + 1) (by omega) rfl p hp
        exact ⟨by omega, h2⟩
    · cases hp
theorem segs_sum (tails : Nat) (ht : tails ≤ 3) (last : Int) : ∀ n c, 0 ≤ c → (last + 1 - c).toNat = n → ((segs c last tails).map fun p => p.2 - p.1 + 1).sum = if c ≤ last then last - c + 1 else 0 := by
  intro n
  induction n using Nat.strongRecOn with
  | _ n ih =>
    intro c hc hn
    rw [segs_step c last tails ht hc]
    by_cases h : c ≤ last
    · rw [if_pos h, if_pos h]
      obtain ⟨hg, he⟩ := endOf_good c last c last tails ht hc (Int.le_refl _) h (Int.le_refl _)
      have := hg.le
      rw [List.map_cons, List.sum_cons, ih _ (by omega) (endOf c last tails + 1) (by omega) rfl]
      split <;> omega
    · rw [if_neg h, if_neg h]
      rfl
theorem segs_hold (tails : Nat) (ht : tails ≤ 3) (last x : Int) : ∀ n c, 0 ≤ c → (last + 1 - c).toNat = n → ((segs c last tails).filter fun p => decide (p.1 ≤ x ∧ x ≤ p.2)).length = if c ≤ x ∧ x ≤ last then 1 else 0 := by
  intro n
  induction n using Nat.strongRecOn with
  | _ n ih =>
    intro c hc hn
    rw [segs_step c last tails ht hc]
    by_cases h : c ≤ last
    · rw [if_pos h]
      obtain ⟨hg, he⟩ := endOf_good c last c last tails ht hc (Int.le_refl _) h (Int.le_refl _)
      have := hg.le
      have ih := ih _ (by omega) (endOf c last tails + 1) (by omega) rfl
      rw [List.filter_cons]
      by_cases hx : c ≤ x ∧ x ≤ endOf c last tails
      · rw [if_pos (by simpa using hx), List.length_cons, ih, if_neg (by omega), if_pos (by omega)]
      · rw [if_neg (by simpa using hx), ih]
        split
        · rw [if_pos (by omega)]
        · rw [if_neg (by omega)]
    · rw [if_neg h, if_neg (by omega)]
      rfl
end Go.Proofs.Ytmpjhbbcfnffhaa.Sp
