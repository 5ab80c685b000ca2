/-
  All rows of a range, plainly: as many texts as characters, each character in just one row, at most 20 rows; no program is named here.
-/
import Derived.Test.YtmpjhbbcfnffhaaYb
namespace Go.Proofs.Ytmpjhbbcfnffhaa.Sp
open Go.Lib

/-- How many characters there are from lo to hi. -/
def chars (lo hi : Int) : Int := (if max lo 0 ≤ min hi 55295 then min hi 55295 - max lo 0 + 1 else 0) + (if max lo 57344 ≤ min hi 1114111 then min hi 1114111 - max lo 57344 + 1 else 0)
theorem cut_small {f l : Int} {tails : Nat} (h : InCut f l tails) : tails ≤ 3 ∧ 0 ≤ f := by cases h <;> omega
theorem pairs_all (lo hi : Int) : ∀ p ∈ pairs lo hi, ∃ f l tails t, InCut f l tails ∧ Good f l tails t p.1 p.2 ∧ lo ≤ p.1 ∧ p.2 ≤ hi := by
  intro p hp
  obtain ⟨k, hk, hp⟩ := List.mem_flatMap.1 hp
  have hc := inCut_of hk
  obtain ⟨h1, h2, t, hg⟩ := segs_all k.1 k.2.1 k.2.2 (cut_small hc).1 (cut_small hc).2 (min hi k.2.1) (by omega) _ (max lo k.1) (by omega) rfl p hp
  exact ⟨_, _, _, t, hc, hg, by omega, by omega⟩
theorem pairs_row {lo hi : Int} {p : Int × Int} (h : p ∈ pairs lo hi) : ∃ tails, tails ≤ 3 ∧ Row tails p.1 p.2 (rowOf p) := by
  obtain ⟨f, l, tails, t, hc, hg, _⟩ := pairs_all lo hi p h
  exact ⟨tails, by cases hc <;> omega, row_good hc hg⟩
theorem sum_flatMap {α β : Type} (l : List α) (g : α → List β) (f : β → Int) : ((l.flatMap g).map f).sum = (l.map fun k => ((g k).map f).sum).sum := by
  induction l with
  | nil => rfl
  | cons k t ih => rw [List.flatMap_cons, List.map_append, List.sum_append, ih, List.map_cons, List.sum_cons]
theorem pairs_sum (lo hi : Int) : ((pairs lo hi).map fun p => p.2 - p.1 + 1).sum = chars lo hi := by
  unfold pairs
  rw [sum_flatMap]
  simp only [cuts, List.map_cons, List.map_nil, List.sum_cons, List.sum_nil]
  rw [segs_sum 0 (by omega) _ _ _ (by omega) rfl, segs_sum 1 (by omega) _ _ _ (by omega) rfl, segs_sum 2 (by omega) _ _ _ (by omega) rfl, segs_sum 2 (by omega) _ _ _ (by omega) rfl, segs_sum 3 (by omega) _ _ _ (by omega) rfl]
  unfold chars
  omega
/-- The rows hold as many texts as there are characters. -/
theorem rows_sum (lo hi : Int) : ((rows lo hi).map cnt).sum = chars lo hi := by
  rw [← pairs_sum]
  unfold rows
  rw [List.map_map]
  congr 1
  refine List.map_congr_left fun p hp => ?_
  obtain ⟨_, _, hr⟩ := pairs_row hp
  exact hr.cnt
/-- Each character of the range is held by just one row. -/
theorem rows_hold (lo hi c : Int) (h : Ut.whole c = true) : ((rows lo hi).filter fun r => fits r (encodeRune c)).length = if lo ≤ c ∧ c ≤ hi then 1 else 0 := by
  unfold rows
  rw [List.filter_map, List.length_map]
  have e : (pairs lo hi).filter ((fun r => fits r (encodeRune c)) ∘ rowOf) = (pairs lo hi).filter fun p => decide (p.1 ≤ c ∧ c ≤ p.2) := by
    refine List.filter_congr fun p hp => ?_
    obtain ⟨_, _, hr⟩ := pairs_row hp
    show fits (rowOf p) (encodeRune c) = _
    rw [fits_rune, hr.fit c h]
  rw [e]
  unfold pairs
  rw [List.filter_flatMap, List.length_flatMap]
  simp only [cuts, List.map_cons, List.map_nil, List.sum_cons, List.sum_nil]
  rw [segs_hold 0 (by omega) _ _ _ _ (by omega) rfl, segs_hold 1 (by omega) _ _ _ _ (by omega) rfl, segs_hold 2 (by omega) _ _ _ _ (by omega) rfl, segs_hold 2 (by omega) _ _ _ _ (by omega) rfl, segs_hold 3 (by omega) _ _ _ _ (by omega) rfl]
  rw [Ut.whole_iff] at h
  repeat' split
  all_goals omega
theorem pw_cases (t s : Nat) (hs : s ≤ 3) (ht : t ≤ s) : pw t ≤ pw s ∧ ∀ x, x % pw s = 0 → x % pw t = 0 := by
  have h : s = 0 ∨ s = 1 ∨ s = 2 ∨ s = 3 := by omega
  have h2 : t = 0 ∨ t = 1 ∨ t = 2 ∨ t = 3 := by omega
  rcases h with rfl | rfl | rfl | rfl <;> rcases h2 with rfl | rfl | rfl | rfl <;> simp only [pw0, pw1, pw2, pw3] <;> first | omega | (constructor <;> (try intro x) <;> omega)
theorem pw_pos (t : Nat) : 1 ≤ pw t := by
  unfold pw
  have : (0 : Int) < 64 ^ t := Int.pow_pos (by omega)
  omega
theorem turns_ge (c last : Int) (tails s : Nat) (hs : s ≤ tails) (ht : tails ≤ 3) (h : c % pw s = 0) (h2 : c + (pw s - 1) ≤ last) : s ≤ turns c last tails 0 := by
  have h1 := turns_le c last tails 0
  have h3 := turns_no c last tails 0
  rcases Nat.lt_or_ge (turns c last tails 0) s with q | q
  · exfalso
    obtain ⟨p1, p2⟩ := pw_cases (turns c last tails 0 + 1) s (by omega) (by omega)
    exact h3 (by omega) ⟨p2 c h, by omega⟩
  · exact q
/-- Where less than a whole turn is left, the turns go down. -/
theorem segs_down (last : Int) (tails : Nat) (ht : tails ≤ 3) : ∀ s, s ≤ 3 → ∀ c, 0 ≤ c → c % pw s = 0 → last + 1 - c < pw s → (segs c last tails).length ≤ s := by
  intro s
  induction s using Nat.strongRecOn with
  | _ s ih =>
    intro hs c h0 hc hl
    rw [segs_step c last tails ht h0]
    by_cases h : c ≤ last
    · rw [if_pos h]
      obtain ⟨hg, he⟩ := endOf_good c last c last tails ht h0 (Int.le_refl _) h (Int.le_refl _)
      have hle := hg.le
      have h1 := turns_le c last tails 0
      have h2 := turns_at c last tails 0 ⟨by rw [pw0]; omega, by rw [pw0]; omega⟩
      have h3 := turns_no c last tails 0
      have hts : turns c last tails 0 < s := by
        rcases Nat.lt_or_ge (turns c last tails 0) s with q | q
        · exact q
        · have := (pw_cases s (turns c last tails 0) (by omega) q).1
          omega
      have hend : endOf c last tails = (last + 1) - (last + 1) % pw (turns c last tails 0) - 1 := by
        unfold endOf
        dsimp only
        by_cases q : turns c last tails 0 < tails
        · rw [if_pos q]
          obtain ⟨p1, p2⟩ := pw_cases (turns c last tails 0 + 1) s hs (by omega)
          have e0 := p2 c hc
          have := h3 (by omega)
          rw [e0] at this ⊢
          have : min last (c - 0 + (pw (turns c last tails 0 + 1) - 1)) = last := by omega
          rw [this]
        · rw [if_neg q]
      have hp := pw_pos (turns c last tails 0)
      have hm := Int.emod_nonneg (last + 1) (show pw (turns c last tails 0) ≠ 0 by omega)
      have hm2 := Int.emod_lt_of_pos (last + 1) (show 0 < pw (turns c last tails 0) by omega)
      have h5 := ih _ hts (by omega) (endOf c last tails + 1) (by omega) hg.b0 (by omega)
      rw [List.length_cons]
      omega
    · rw [if_neg h]
      exact Nat.zero_le _
theorem segs_up (last : Int) (tails : Nat) (ht : tails ≤ 3) : ∀ n s, s ≤ tails → tails - s = n → ∀ c, 0 ≤ c → c % pw s = 0 → (segs c last tails).length ≤ (tails + 1 - s) + tails := by
  intro n
  induction n using Nat.strongRecOn with
  | _ n ih =>
    intro s hs hn c h0 hc
    by_cases hl : last + 1 - c < pw s
    · have := segs_down last tails ht s (by omega) c h0 hc hl
      omega
    · have hge := turns_ge c last tails s hs ht hc (by omega)
      rw [segs_step c last tails ht h0]
      have hpp := pw_pos s
      have h : c ≤ last := by omega
      rw [if_pos h]
      obtain ⟨hg, he⟩ := endOf_good c last c last tails ht h0 (Int.le_refl _) h (Int.le_refl _)
      have hle := hg.le
      have h1 := turns_le c last tails 0
      have hp := pw_pos (turns c last tails 0)
      have hm := Int.emod_nonneg (last + 1) (show pw (turns c last tails 0) ≠ 0 by omega)
      have hm2 := Int.emod_lt_of_pos (last + 1) (show 0 < pw (turns c last tails 0) by omega)
      rw [List.length_cons]
      have down : endOf c last tails = (last + 1) - (last + 1) % pw (turns c last tails 0) - 1 → (segs (endOf c last tails + 1) last tails).length ≤ turns c last tails 0 := fun e =>
        segs_down last tails ht _ (by omega) _ (by omega) hg.b0 (by omega)
      by_cases q : turns c last tails 0 < tails
      · by_cases q2 : c - c % pw (turns c last tails 0 + 1) + (pw (turns c last tails 0 + 1) - 1) ≤ last
        · have e : endOf c last tails + 1 = c - c % pw (turns c last tails 0 + 1) + pw (turns c last tails 0 + 1) := by
            unfold endOf
            dsimp only
            rw [if_pos q, show min last (c - c % pw (turns c last tails 0 + 1) + (pw (turns c last tails 0 + 1) - 1)) = c - c % pw (turns c last tails 0 + 1) + (pw (turns c last tails 0 + 1) - 1) by omega]
            have hz : (c - c % pw (turns c last tails 0 + 1) + (pw (turns c last tails 0 + 1) - 1) + 1) % pw (turns c last tails 0) = 0 := by
              refine (pw_cases (turns c last tails 0) (turns c last tails 0 + 1) (by omega) (by omega)).2 _ ?_
              rw [show c - c % pw (turns c last tails 0 + 1) + (pw (turns c last tails 0 + 1) - 1) + 1 = c - c % pw (turns c last tails 0 + 1) + pw (turns c last tails 0 + 1) by omega]
              rw [Int.add_emod_right, Int.sub_emod, Int.emod_emod, Int.sub_self, Int.zero_emod]
            rw [hz]
            omega
          have h5 := ih _ (by omega) (turns c last tails 0 + 1) (by omega) rfl (endOf c last tails + 1) (by omega) (by
            rw [e, Int.add_emod_right, Int.sub_emod, Int.emod_emod, Int.sub_self, Int.zero_emod])
          omega
        · have := down (by
            unfold endOf
            dsimp only
            rw [if_pos q, show min last (c - c % pw (turns c last tails 0 + 1) + (pw (turns c last tails 0 + 1) - 1)) = last by omega])
          omega
      · have := down (by
          unfold endOf
          dsimp only
          rw [if_neg q])
        omega
theorem segs_few (c last : Int) (tails : Nat) (ht : tails ≤ 3) (h0 : 0 ≤ c) : (segs c last tails).length ≤ 2 * tails + 1 := by
  have := segs_up last tails ht _ 0 (by omega) rfl c h0 (by rw [pw0]; omega)
  omega
theorem segs_none (c last : Int) (tails : Nat) (ht : tails ≤ 3) (h0 : 0 ≤ c) (h : last < c) : (segs c last tails).length = 0 := by
  rw [segs_step c last tails ht h0, if_neg (by omega)]
  rfl
/-- There are at most 20 rows. -/
theorem rows_few (lo hi : Int) : (rows lo hi).length ≤ 20 := by
  unfold rows pairs
  rw [List.length_map, List.length_flatMap]
  simp only [cuts, List.map_cons, List.map_nil, List.sum_cons, List.sum_nil]
  have one : ∀ (f l : Int) (t n : Nat), t ≤ 3 → 0 ≤ f → (segs f l t).length = n → (segs (max lo f) (min hi l) t).length ≤ 2 * t + 1 ∧ (lo ≤ f ∧ l ≤ hi → (segs (max lo f) (min hi l) t).length = n) ∧ (hi < f ∨ l < lo → (segs (max lo f) (min hi l) t).length = 0 ∨ l < f) := by
    intro f l t n ht hf hn
    refine ⟨segs_few _ _ _ ht (by omega), fun h => ?_, fun h => ?_⟩
    · rw [show max lo f = f by omega, show min hi l = l by omega, hn]
    · by_cases q : l < f
      · exact .inr q
      · exact .inl (segs_none _ _ _ ht (by omega) (by omega))
  have a0 := one 0 127 0 1 (by omega) (by omega) (by decide +kernel)
  have a1 := one 128 2047 1 1 (by omega) (by omega) (by decide +kernel)
  have a2 := one 2048 55295 2 3 (by omega) (by omega) (by decide +kernel)
  have a3 := one 57344 65535 2 1 (by omega) (by omega) (by decide +kernel)
  have a4 := one 65536 1114111 3 3 (by omega) (by omega) (by decide +kernel)
  omega
end Go.Proofs.Ytmpjhbbcfnffhaa.Sp
