/-
  Lemmas on automata, the program's calls and the given ones, put together of 18 texts (part 2).
-/
import Derived.Test.YtpoeklgoepjikaaQ1
import Derived.Laws.BitsLemmas
import Derived.WalkKit
import Derived.WalkSpells
import Derived.WalkLawsBesides
import Derived.IntWalk
import Derived.Lib.Hide
import Derived.OwnWalk
import Derived.Laws.IdiomStrings
import Derived.Deep.LoopGhost
import Derived.Deep.OwnRows
import Derived.Lib.Strings
import Derived.BigQuiet
import Derived.Laws.AppendOwnNone
import Derived.Lib.OthersKept
import Derived.Maps.OwnSet
import Derived.Maps.OwnOps
import Derived.Deep.AppendLies
import Derived.Deep.RegionHeld3
import Derived.Deep.RegionWith
import Derived.Deep.RegionLaw
import Derived.BigRegion
/-
  All rows of a range, plainly: as many texts as characters, each character in just one row, at most 20 rows; no program is named here.
-/
namespace Go.Proofs.Ytpoeklgoepjikaa.Sp
open Go.Lib

/-- How many characters there are from lo to hi. -/
def chars (lo hi : Int) : Int := (if max lo 0 ≤ min hi 55295 then min hi 55295 - max lo 0 + 1 else 0) + (if max lo 57344 ≤ min hi 1114111 then min hi 1114111 - max lo 57344 + 1 else 0)
theorem cut_small {f l : Int} {tails : Nat} (h : InCut f l tails) : tails ≤ 3 ∧ 0 ≤ f := by cases h <;> omega
theorem pairs_all (lo hi : Int) : ∀ p ∈ pairs lo hi, ∃ f l tails t, InCut f l tails ∧ Good f l tails t p.1 p.2 ∧ lo ≤ p.1 ∧ p.2 ≤ hi := by
  intro p hp
  obtain ⟨k, hk, hp⟩ := List.mem_flatMap.1 hp
  have hc := inCut_of hk
  obtain ⟨h1, h2, t, hg⟩ := segs_all k.1 k.2.1 k.2.2 (cut_small hc).1 (cut_small hc).2 (min hi k.2.1) (by omega) _ (max lo k.1) (by omega) rfl p hp
  exact ⟨_, _, _, t, hc, hg, by omega, by omega⟩
theorem pairs_row {lo hi : Int} {p : Int × Int} (h : p ∈ pairs lo hi) : ∃ tails, tails ≤ 3 ∧ Row tails p.1 p.2 (rowOf p) := by
  obtain ⟨f, l, tails, t, hc, hg, _⟩ := pairs_all lo hi p h
  exact ⟨tails, by cases hc <;> omega, row_good hc hg⟩
theorem sum_flatMap {α β : Type} (l : List α) (g : α → List β) (f : β → Int) : ((l.flatMap g).map f).sum = (l.map fun k => ((g k).map f).sum).sum := by
  induction l with
  | nil => rfl
  | cons k t ih => rw [List.flatMap_cons, List.map_append, List.sum_append, ih, List.map_cons, List.sum_cons]
theorem pairs_sum (lo hi : Int) : ((pairs lo hi).map fun p => p.2 - p.1 + 1).sum = chars lo hi := by
  unfold pairs
  rw [sum_flatMap]
  simp only [cuts, List.map_cons, List.map_nil, List.sum_cons, List.sum_nil]
  rw [segs_sum 0 (by omega) _ _ _ (by omega) rfl, segs_sum 1 (by omega) _ _ _ (by omega) rfl, segs_sum 2 (by omega) _ _ _ (by omega) rfl, segs_sum 2 (by omega) _ _ _ (by omega) rfl, segs_sum 3 (by omega) _ _ _ (by omega) rfl]
  unfold chars
  omega
/-- The rows hold as many texts as there are characters. -/
theorem rows_sum (lo hi : Int) : ((rows lo hi).map cnt).sum = chars lo hi := by
  rw [← pairs_sum]
  unfold rows
  rw [List.map_map]
  congr 1
  refine List.map_congr_left fun p hp => ?_
  obtain ⟨_, _, hr⟩ := pairs_row hp
  exact hr.cnt
/-- Each character of the range is held by just one row. -/
theorem rows_hold (lo hi c : Int) (h : Ut.whole c = true) : ((rows lo hi).filter fun r => fits r (encodeRune c)).length = if lo ≤ c ∧ c ≤ hi then 1 else 0 := by
  unfold rows
  rw [List.filter_map, List.length_map]
  have e : (pairs lo hi).filter ((fun r => fits r (encodeRune c)) ∘ rowOf) = (pairs lo hi).filter fun p => decide (p.1 ≤ c ∧ c ≤ p.2) := by
    refine List.filter_congr fun p hp => ?_
    obtain ⟨_, _, hr⟩ := pairs_row hp
    show fits (rowOf p) (encodeRune c) = _
    rw [fits_rune, hr.fit c h]
  rw [e]
  unfold pairs
  rw [List.filter_flatMap, List.length_flatMap]
  simp only [cuts, List.map_cons, List.map_nil, List.sum_cons, List.sum_nil]
  rw [segs_hold 0 (by omega) _ _ _ _ (by omega) rfl, segs_hold 1 (by omega) _ _ _ _ (by omega) rfl, segs_hold 2 (by omega) _ _ _ _ (by omega) rfl, segs_hold 2 (by omega) _ _ _ _ (by omega) rfl, segs_hold 3 (by omega) _ _ _ _ (by omega) rfl]
  rw [Ut.whole_iff] at h
  repeat' split
  all_goals omega
theorem pw_cases (t s : Nat) (hs : s ≤ 3) (ht : t ≤ s) : pw t ≤ pw s ∧ ∀ x, x % pw s = 0 → x % pw t = 0 := by
  have h : s = 0 ∨ s = 1 ∨ s = 2 ∨ s = 3 := by omega
  have h2 : t = 0 ∨ t = 1 ∨ t = 2 ∨ t = 3 := by omega
  rcases h with rfl | rfl | rfl | rfl <;> rcases h2 with rfl | rfl | rfl | rfl <;> simp only [pw0, pw1, pw2, pw3] <;> first | omega | (constructor <;> (try intro x) <;> omega)
theorem pw_pos (t : Nat) : 1 ≤ pw t := by
  unfold pw
  have : (0 : Int) < 64 ^ t := Int.pow_pos (by omega)
  omega
theorem turns_ge (c last : Int) (tails s : Nat) (hs : s ≤ tails) (ht : tails ≤ 3) (h : c % pw s = 0) (h2 : c + (pw s - 1) ≤ last) : s ≤ turns c last tails 0 := by
  have h1 := turns_le c last tails 0
  have h3 := turns_no c last tails 0
  rcases Nat.lt_or_ge (turns c last tails 0) s with q | q
  · exfalso
    obtain ⟨p1, p2⟩ := pw_cases (turns c last tails 0 + 1) s (by omega) (by omega)
    exact h3 (by omega) ⟨p2 c h, by omega⟩
  · exact q
/-- Where less than a whole turn is left, the turns go down. -/
theorem segs_down (last : Int) (tails : Nat) (ht : tails ≤ 3) : ∀ s, s ≤ 3 → ∀ c, 0 ≤ c → c % pw s = 0 → last + 1 - c < pw s → (segs c last tails).length ≤ s := by
  intro s
  induction s using Nat.strongRecOn with
  | _ s ih =>
    intro hs c h0 hc hl
    rw [segs_step c last tails ht h0]
    by_cases h : c ≤ last
    · rw [if_pos h]
      obtain ⟨hg, he⟩ := endOf_good c last c last tails ht h0 (Int.le_refl _) h (Int.le_refl _)
      have hle := hg.le
      have h1 := turns_le c last tails 0
      have h2 := turns_at c last tails 0 ⟨by rw [pw0]; omega, by rw [pw0]; omega⟩
      have h3 := turns_no c last tails 0
      have hts : turns c last tails 0 < s := by
        rcases Nat.lt_or_ge (turns c last tails 0) s with q | q
        · exact q
        · have := (pw_cases s (turns c last tails 0) (by omega) q).1
          omega
      have hend : endOf c last tails = (last + 1) - (last + 1) % pw (turns c last tails 0) - 1 := by
        unfold endOf
        dsimp only
        by_cases q : turns c last tails 0 < tails
        · rw [if_pos q]
          obtain ⟨p1, p2⟩ := pw_cases (turns c last tails 0 + 1) s hs (by omega)
          have e0 := p2 c hc
          have := h3 (by omega)
          rw [e0] at this ⊢
          have : min last (c - 0 + (pw (turns c last tails 0 + 1) - 1)) = last := by omega
          rw [this]
        · rw [if_neg q]
      have hp := pw_pos (turns c last tails 0)
      have hm := Int.emod_nonneg (last + 1) (show pw (turns c last tails 0) ≠ 0 by omega)
      have hm2 := Int.emod_lt_of_pos (last + 1) (show 0 < pw (turns c last tails 0) by omega)
      have h5 := ih _ hts (by omega) (endOf c last tails + 1) (by omega) hg.b0 (by omega)
      rw [List.length_cons]
      omega
    · rw [if_neg h]
      exact Nat.zero_le _
theorem segs_up (last : Int) (tails : Nat) (ht : tails ≤ 3) : ∀ n s, s ≤ tails → tails - s = n → ∀ c, 0 ≤ c → c % pw s = 0 → (segs c last tails).length ≤ (tails + 1 - s) + tails := by
  intro n
  induction n using Nat.strongRecOn with
  | _ n ih =>
    intro s hs hn c h0 hc
    by_cases hl : last + 1 - c < pw s
    · have := segs_down last tails ht s (by omega) c h0 hc hl
      omega
    · have hge := turns_ge c last tails s hs ht hc (by omega)
      rw [segs_step c last tails ht h0]
      have hpp := pw_pos s
      have h : c ≤ last := by omega
      rw [if_pos h]
      obtain ⟨hg, he⟩ := endOf_good c last c last tails ht h0 (Int.le_refl _) h (Int.le_refl _)
      have hle := hg.le
      have h1 := turns_le c last tails 0
      have hp := pw_pos (turns c last tails 0)
      have hm := Int.emod_nonneg (last + 1) (show pw (turns c last tails 0) ≠ 0 by omega)
      have hm2 := Int.emod_lt_of_pos (last + 1) (show 0 < pw (turns c last tails 0) by omega)
      rw [List.length_cons]
      have down : endOf c last tails = (last + 1) - (last + 1) % pw (turns c last tails 0) - 1 → (segs (endOf c last tails + 1) last tails).length ≤ turns c last tails 0 := fun e =>
        segs_down last tails ht _ (by omega) _ (by omega) hg.b0 (by omega)
      by_cases q : turns c last tails 0 < tails
      · by_cases q2 : c - c % pw (turns c last tails 0 + 1) + (pw (turns c last tails 0 + 1) - 1) ≤ last
        · have e : endOf c last tails + 1 = c - c % pw (turns c last tails 0 + 1) + pw (turns c last tails 0 + 1) := by
            unfold endOf
            dsimp only
            rw [if_pos q, show min last (c - c % pw (turns c last tails 0 + 1) + (pw (turns c last tails 0 + 1) - 1)) = c - c % pw (turns c last tails 0 + 1) + (pw (turns c last tails 0 + 1) - 1) by omega]
            have hz : (c - c % pw (turns c last tails 0 + 1) + (pw (turns c last tails 0 + 1) - 1) + 1) % pw (turns c last tails 0) = 0 := by
              refine (pw_cases (turns c last tails 0) (turns c last tails 0 + 1) (by omega) (by omega)).2 _ ?_
              rw [show c - c % pw (turns c last tails 0 + 1) + (pw (turns c last tails 0 + 1) - 1) + 1 = c - c % pw (turns c last tails 0 + 1) + pw (turns c last tails 0 + 1) by omega]
              rw [Int.add_emod_right, Int.sub_emod, Int.emod_emod, Int.sub_self, Int.zero_emod]
            rw [hz]
            omega
          have h5 := ih _ (by omega) (turns c last tails 0 + 1) (by omega) rfl (endOf c last tails + 1) (by omega) (by
            rw [e, Int.add_emod_right, Int.sub_emod, Int.emod_emod, Int.sub_self, Int.zero_emod])
          omega
        · have := down (by
            unfold endOf
            dsimp only
            rw [if_pos q, show min last (c - c % pw (turns c last tails 0 + 1) + (pw (turns c last tails 0 + 1) - 1)) = last by omega])
          omega
      · have := down (by
          unfold endOf
          dsimp only
          rw [if_neg q])
        omega
theorem segs_few (c last : Int) (tails : Nat) (ht : tails ≤ 3) (h0 : 0 ≤ c) : (segs c last tails).length ≤ 2 * tails + 1 := by
  have := segs_up last tails ht _ 0 (by omega) rfl c h0 (by rw [pw0]; omega)
  omega
theorem segs_none (c last : Int) (tails : Nat) (ht : tails ≤ 3) (h0 : 0 ≤ c) (h : last < c) : (segs c last tails).length = 0 := by
  rw [segs_step c last tails ht h0, if_neg (by omega)]
  rfl
/-- There are at most 20 rows. -/
theorem rows_few (lo hi : Int) : (rows lo hi).length ≤ 20 := by
  unfold rows pairs
  rw [List.length_map, List.length_flatMap]
  simp only [cuts, List.map_cons, List.map_nil, List.sum_cons, List.sum_nil]
  have one : ∀ (f l : Int) (t n : Nat), t ≤ 3 → 0 ≤ f → (segs f l t).length = n → (segs (max lo f) (min hi l) t).length ≤ 2 * t + 1 ∧ (lo ≤ f ∧ l ≤ hi → (segs (max lo f) (min hi l) t).length = n) ∧ (hi < f ∨ l < lo → (segs (max lo f) (min hi l) t).length = 0 ∨ l < f) := by
    intro f l t n ht hf hn
    refine ⟨segs_few _ _ _ ht (by omega), fun h => ?_, fun h => ?_⟩
    · rw [show max lo f = f by omega, show min hi l = l by omega, hn]
    · by_cases q : l < f
      · exact .inr q
      · exact .inl (segs_none _ _ _ ht (by omega) (by omega))
  have a0 := one 0 127 0 1 (by omega) (by omega) (by decide +kernel)
  have a1 := one 128 2047 1 1 (by omega) (by omega) (by decide +kernel)
  have a2 := one 2048 55295 2 3 (by omega) (by omega) (by decide +kernel)
  have a3 := one 57344 65535 2 1 (by omega) (by omega) (by decide +kernel)
  have a4 := one 65536 1114111 3 3 (by omega) (by omega) (by decide +kernel)
  omega
end Go.Proofs.Ytpoeklgoepjikaa.Sp

/-
  '&', '|' and '&^' by a number whose low bits are set alone, of an int that is not negative; no program is named here.
-/
namespace Go.Proofs.Ytpoeklgoepjikaa.Sp

theorem nat_or_mask (x k : Nat) : x ||| (2 ^ k - 1) = x - x % 2 ^ k + (2 ^ k - 1) := by
  have hp : 0 < 2 ^ k := Nat.two_pow_pos k
  have hm : x % 2 ^ k < 2 ^ k := Nat.mod_lt _ hp
  have hd : 2 ^ k * (x / 2 ^ k) + x % 2 ^ k = x := Nat.div_add_mod x (2 ^ k)
  have e1 : x - x % 2 ^ k + (2 ^ k - 1) = 2 ^ k * (x / 2 ^ k) + (2 ^ k - 1) := by omega
  rw [e1]
  apply Nat.eq_of_testBit_eq
  intro i
  rw [Nat.testBit_two_pow_mul_add _ (by omega), Nat.testBit_or, Nat.testBit_two_pow_sub_one]
  by_cases h : i < k
  · simp [h]
  · simp only [h, decide_false, Bool.or_false, if_false]
    rw [Nat.testBit_div_two_pow, Nat.sub_add_cancel (by omega)]
theorem nat_clear (x k : Nat) (hx : x < 2 ^ 64) (_hk : k ≤ 64) : x &&& (2 ^ 64 - 1 - (2 ^ k - 1)) = x - x % 2 ^ k := by
  have hp : 0 < 2 ^ k := Nat.two_pow_pos k
  have hd : 2 ^ k * (x / 2 ^ k) + x % 2 ^ k = x := Nat.div_add_mod x (2 ^ k)
  have hk2 : 2 ^ k ≤ 2 ^ 64 := Nat.pow_le_pow_right (by omega) _hk
  have e1 : x - x % 2 ^ k = 2 ^ k * (x / 2 ^ k) + 0 := by omega
  rw [e1]
  apply Nat.eq_of_testBit_eq
  intro i
  have e2 : 2 ^ 64 - 1 - (2 ^ k - 1) = 2 ^ 64 - ((2 ^ k - 1) + 1) := by omega
  rw [Nat.testBit_two_pow_mul_add _ (by omega), Nat.testBit_and, e2, Nat.testBit_two_pow_sub_succ (by omega), Nat.testBit_two_pow_sub_one, Nat.zero_testBit]
  by_cases h : i < k
  · simp [h]
  · simp only [h, decide_false, Bool.not_false, Bool.and_true, if_false]
    rw [Nat.testBit_div_two_pow, Nat.sub_add_cancel (by omega)]
    by_cases h6 : i < 64
    · simp [h6]
    · have : x.testBit i = false := Nat.testBit_lt_two_pow (Nat.lt_of_lt_of_le hx (Nat.pow_le_pow_right (by omega) (by omega)))
      simp [this]
theorem wrap_small (n : Nat) (h : n < 9223372036854775808) : IntKind.i64.wrap (n : Int) = (n : Int) := by
  rw [IntKind.wrap_i64]
  omega
theorem ofInt_nat (n : Nat) (h : n < 2 ^ 64) : (BitVec.ofInt 64 (n : Int)).toNat = n := by
  rw [BitVec.ofInt_natCast, BitVec.toNat_ofNat]
  exact Nat.mod_eq_of_lt h
theorem and_nat (x k : Nat) (hx : x < 2 ^ 40) (hk : k ≤ 40) : bits .and .i64 (x : Int) ((2 ^ k - 1 : Nat) : Int) = ((x % 2 ^ k : Nat) : Int) := by
  have hk2 : 2 ^ k ≤ 2 ^ 40 := Nat.pow_le_pow_right (by omega) hk
  show IntKind.i64.wrap ((BitVec.ofInt 64 (x : Int) &&& BitVec.ofInt 64 ((2 ^ k - 1 : Nat) : Int)).toNat : Int) = _
  rw [BitVec.toNat_and, ofInt_nat x (by omega), ofInt_nat _ (by omega), Nat.and_two_pow_sub_one_eq_mod]
  exact wrap_small _ (Nat.lt_of_le_of_lt (Nat.mod_le _ _) (by omega))
theorem or_nat (x k : Nat) (hx : x < 2 ^ 40) (hk : k ≤ 40) : bits .or .i64 (x : Int) ((2 ^ k - 1 : Nat) : Int) = ((x - x % 2 ^ k + (2 ^ k - 1) : Nat) : Int) := by
  have hk2 : 2 ^ k ≤ 2 ^ 40 := Nat.pow_le_pow_right (by omega) hk
  show IntKind.i64.wrap ((BitVec.ofInt 64 (x : Int) ||| BitVec.ofInt 64 ((2 ^ k - 1 : Nat) : Int)).toNat : Int) = _
  rw [BitVec.toNat_or, ofInt_nat x (by omega), ofInt_nat _ (by omega), nat_or_mask]
  exact wrap_small _ (by omega)
theorem clear_nat (x k : Nat) (hx : x < 2 ^ 40) (hk : k ≤ 40) : bits .andNot .i64 (x : Int) ((2 ^ k - 1 : Nat) : Int) = ((x - x % 2 ^ k : Nat) : Int) := by
  have hk2 : 2 ^ k ≤ 2 ^ 40 := Nat.pow_le_pow_right (by omega) hk
  show IntKind.i64.wrap ((BitVec.ofInt 64 (x : Int) &&& ~~~ BitVec.ofInt 64 ((2 ^ k - 1 : Nat) : Int)).toNat : Int) = _
  rw [BitVec.toNat_and, BitVec.toNat_not, ofInt_nat x (by omega), ofInt_nat _ (by omega), nat_clear x k (by omega) (by omega)]
  exact wrap_small _ (by omega)
theorem and_int (x : Int) (k m : Nat) (hm : m = 2 ^ k) (h0 : 0 ≤ x) (h1 : x < 1099511627776) (hk : k ≤ 40) : bits .and .i64 x ((m : Int) - 1) = x % m := by
  obtain ⟨n, rfl⟩ : ∃ n : Nat, x = n := ⟨x.toNat, by omega⟩
  have hp : 0 < 2 ^ k := Nat.two_pow_pos k
  have := and_nat n k (by omega) hk
  rw [show ((m : Int) - 1) = ((2 ^ k - 1 : Nat) : Int) by omega, this, hm]
  simp
theorem or_int (x : Int) (k m : Nat) (hm : m = 2 ^ k) (h0 : 0 ≤ x) (h1 : x < 1099511627776) (hk : k ≤ 40) : bits .or .i64 x ((m : Int) - 1) = x - x % m + ((m : Int) - 1) := by
  obtain ⟨n, rfl⟩ : ∃ n : Nat, x = n := ⟨x.toNat, by omega⟩
  have hp : 0 < 2 ^ k := Nat.two_pow_pos k
  have hl := Nat.mod_le n (2 ^ k)
  have := or_nat n k (by omega) hk
  rw [show ((m : Int) - 1) = ((2 ^ k - 1 : Nat) : Int) by omega, this, hm]
  rw [Int.natCast_add, Int.natCast_sub hl, Int.natCast_emod]
theorem clear_int (x : Int) (k m : Nat) (hm : m = 2 ^ k) (h0 : 0 ≤ x) (h1 : x < 1099511627776) (hk : k ≤ 40) : bits .andNot .i64 x ((m : Int) - 1) = x - x % m := by
  obtain ⟨n, rfl⟩ : ∃ n : Nat, x = n := ⟨x.toNat, by omega⟩
  have hp : 0 < 2 ^ k := Nat.two_pow_pos k
  have hl := Nat.mod_le n (2 ^ k)
  have := clear_nat n k (by omega) hk
  rw [show ((m : Int) - 1) = ((2 ^ k - 1 : Nat) : Int) by omega, this, hm]
  rw [Int.natCast_sub hl, Int.natCast_emod]
end Go.Proofs.Ytpoeklgoepjikaa.Sp

/-
  What the walks share: slices of numbers and of bytes in memory, wherever they lie or the call's own.
-/
namespace Go.Proofs.Ytpoeklgoepjikaa
open Go.RowKit

theorem Try.infoB5 : (Try.prog.info? 5).map (fun i => (i.zero, i.size, i.bytes)) = some (some (.int .u8 0), 1, 1) := by kernel_rfl

theorem Try.infoI : (Try.prog.info? 3).map (fun i => (i.zero, i.size, i.bytes)) = some (some (.int .i64 0), 1, 8) := by kernel_rfl
theorem mk_of5 {s : ByteArray} {l : List UInt8} (h : s.data.toList = l) : s = ⟨l.toArray⟩ := by
  subst h
  cases s
  simp
theorem cut_mk5 (s : ByteArray) (y n : Nat) : s.extract y (y + n) = ⟨((s.data.toList.drop y).take n).toArray⟩ := by
  apply mk_of5
  rw [Lib.extract_data, Nat.add_sub_cancel_left]

/-- Bytes as cells. -/
def bytesV5 (l : List UInt8) : List Value := l.map (fun c => .int .u8 (c.toNat : Int))
theorem bytesV_snoc5 (l : List UInt8) (c : UInt8) : bytesV5 l ++ [.int .u8 (c.toNat : Int)] = bytesV5 (l ++ [c]) := by simp [bytesV5]
theorem bytesV_length5 (l : List UInt8) : (bytesV5 l).length = l.length := by simp [bytesV5]

/-- The slice v is the call's own, from block B on, and holds these bytes. -/
def OwnB5 (w : World) (B : Nat) (v : Value) (l : List UInt8) : Prop := w.ownsRow B 5 1 v l.length (bytesV5 l)

theorem own_conv5 {w : World} {B : Nat} {v : Value} {l : List UInt8} (h : OwnB5 w B v l) :
    (convert 98 9 v).run Try.prog w = .ok (.string ⟨l.toArray⟩) w := by
  have hown : w.ownsRow B 5 1 v l.length (bytesV5 l) := h
  rcases h.2 with ⟨rfl, h0⟩ | ⟨g, cap, cur, rfl, hg, hh, hnc, hcp, hcs, htake⟩
  · obtain rfl : l = [] := List.length_eq_zero_iff.1 h0
    rw [run_convert_bytes_string w 98 9 5 none 0 0 Try.underlying98 Try.underlying5 Try.underlying9]
    simp [Conv.bytesToString]
    rfl
  · have hcells : ∀ j (hj : j < l.length), w.cell? ((⟨g, 0, none⟩ : Addr).add j) = some (.int .u8 (l[j].toNat : Int)) := fun j hj => by
      rw [Addr.add_lit, Nat.zero_add, hown.cellAt j (by omega)]
      simp [bytesV5, hj]
    exact run_convert_bytes_back (P := Try.prog) w 98 9 5 ⟨g, 0, none⟩ cap l Try.underlying98 Try.underlying5 Try.underlying9 hcells

/-- Behind an append of one byte. -/
theorem own_push5 {w wr w1 : World} {B : Nat} {v v' : Value} {l : List UInt8} {c : UInt8} {o : Obj} (hB : B ≤ wr.heap.size) (h : OwnB5 wr B v l) (hb : Below B w wr)
    (h1 : w1.ownsRow B 5 1 v' (l.length + 1) (bytesV5 l ++ [.int .u8 (c.toNat : Int)])) (hg : (wr.alloc o).grownBy w1 v.ownBlock) :
    OwnB5 w1 B v' (l ++ [c]) ∧ Below B w w1 := by
  have hown : wr.ownsRow B 5 1 v l.length (bytesV5 l) := h
  refine ⟨?_, (hb.alloc hB o).grown hg (by simp; omega) (fun j hj => (hown.lt j hj).1)⟩
  unfold OwnB5
  rw [bytesV_snoc5] at h1
  simpa using h1

theorem drop_cons5 (s : ByteArray) (k : Nat) (h : k < s.size) : s.data.toList.drop k = s[k] :: s.data.toList.drop (k + 1) := by
  have hl : k < s.data.toList.length := by simpa using h
  rw [List.drop_eq_getElem_cons hl]
  rfl
theorem drop_all5 (s : ByteArray) (k : Nat) (h : s.size ≤ k) : s.data.toList.drop k = [] := by
  apply List.drop_of_length_le
  simpa using h
/-- Numbers as cells. -/
def intsV5 (l : List Int) : List Value := l.map (fun c => .int .i64 c)
theorem intsV_snoc5 (l : List Int) (c : Int) : intsV5 l ++ [.int .i64 c] = intsV5 (l ++ [c]) := by simp [intsV5]
theorem intsV_append (l r : List Int) : intsV5 l ++ intsV5 r = intsV5 (l ++ r) := by simp [intsV5]
theorem intsV_length (l : List Int) : (intsV5 l).length = l.length := by simp [intsV5]
/-- The slice v is the call's own, from block B on, and holds these numbers. -/
def OwnI (w : World) (B : Nat) (v : Value) (l : List Int) : Prop := w.ownsRow B 3 1 v l.length (intsV5 l)
/-- Behind an append of one number. -/
theorem ownI_push {w wr w1 : World} {B : Nat} {v v' : Value} {l : List Int} {c : Int} {o : Obj} (hB : B ≤ wr.heap.size) (h : OwnI wr B v l) (hb : Below B w wr)
    (h1 : w1.ownsRow B 3 1 v' (l.length + 1) (intsV5 l ++ [.int .i64 c])) (hg : (wr.alloc o).grownBy w1 v.ownBlock) :
    OwnI w1 B v' (l ++ [c]) ∧ Below B w w1 := by
  have hown : wr.ownsRow B 3 1 v l.length (intsV5 l) := h
  refine ⟨?_, (hb.alloc hB o).grown hg (by simp; omega) (fun j hj => (hown.lt j hj).1)⟩
  unfold OwnI
  rw [intsV_snoc5] at h1
  simpa using h1
/-- An own slice, its cells told one by one. -/
theorem ownI_cells {w : World} {B : Nat} {v : Value} {l : List Int} (h : OwnI w B v l) : ∃ a cap, v = .slice a l.length cap ∧ (0 < l.length → ∃ g, a = some ⟨g, 0, none⟩ ∧ g < w.heap.size ∧ ∀ j (hj : j < l.length), w.cell? ⟨g, j, none⟩ = some (.int .i64 l[j])) := by
  have hown : w.ownsRow B 3 1 v l.length (intsV5 l) := h
  rcases h.2 with ⟨rfl, h0⟩ | ⟨g, cap, cur, rfl, hg, hh, hnc, hcp, hcs, htake⟩
  · exact ⟨none, 0, by rw [h0], fun h => by omega⟩
  · refine ⟨_, _, rfl, fun h => ⟨g, rfl, (hown.lt g rfl).2, fun j hj => ?_⟩⟩
    rw [hown.cellAt j (by omega)]
    simp [intsV5, hj]

/-- The value v is a slice of these numbers. -/
def IntS (w : World) (v : Value) (xs : List Int) : Prop :=
  ∃ a cap, v = .slice a xs.length cap ∧ xs.length ≤ cap ∧ cap ≤ 9223372036854775807 ∧ (0 < xs.length → ∃ g o, a = some ⟨g, o, none⟩ ∧ g < w.heap.size ∧ ∀ j (_ : j < xs.length), w.cell? ⟨g, o + j, none⟩ = some (.int .i64 xs[j]))
theorem IntS.below {w w' : World} {B : Nat} {v : Value} {xs : List Int} (h : IntS w v xs) (hb : Below B w w') (hB : w.heap.size ≤ B) : IntS w' v xs := by
  obtain ⟨a, cap, h1, h2, h3, h4⟩ := h
  refine ⟨a, cap, h1, h2, h3, fun h0 => ?_⟩
  obtain ⟨g, o, h5, h6, h7⟩ := h4 h0
  exact ⟨g, o, h5, Nat.lt_of_lt_of_le h6 hb.size, fun j hj => (hb.cell (p := ⟨g, o + j, none⟩) (Nat.lt_of_lt_of_le h6 hB)).trans (h7 j hj)⟩
theorem take_eq_snoc {xs ys : List Int} {k : Nat} (h1 : k < xs.length) (h2 : k < ys.length) (h : xs.take k = ys.take k) (e : xs[k] = ys[k]) : xs.take (k + 1) = ys.take (k + 1) := by
  rw [List.take_succ_eq_append_getElem h1, List.take_succ_eq_append_getElem h2, h, e]

theorem OwnI.ints {w : World} {B : Nat} {v : Value} {l : List Int} (h : OwnI w B v l) (_ : l.length ≤ 140737488355328) : IntS w v l := by
  rcases h.2 with ⟨rfl, h0⟩ | ⟨g, cap, cur, rfl, hg, hh, hnc, hcp, hcs, htake⟩
  · exact ⟨none, 0, by rw [h0], by omega, by omega, fun h => by omega⟩
  · have hown : w.ownsRow B 3 1 (.slice (some ⟨g, 0, none⟩) l.length cap) l.length (intsV5 l) := h
    refine ⟨_, cap, rfl, hnc, by unfold maxLen at hcp; omega, fun h => ⟨g, 0, rfl, (hown.lt g rfl).2, fun j hj => ?_⟩⟩
    rw [Nat.zero_add, hown.cellAt j (by omega)]
    simp [intsV5, hj]
/-- Behind an append of numbers that lie elsewhere. -/
theorem ownI_pushAll {w wr w1 : World} {B : Nat} {v v' : Value} {l r : List Int} (hB : B ≤ wr.heap.size) (h : OwnI wr B v l) (hb : Below B w wr)
    (h1 : w1.ownsRow B 3 1 v' (l.length + r.length) (intsV5 l ++ intsV5 r)) (hg : wr.grownBy w1 v.ownBlock) :
    OwnI w1 B v' (l ++ r) ∧ Below B w w1 := by
  have hown : wr.ownsRow B 3 1 v l.length (intsV5 l) := h
  refine ⟨?_, hb.grown hg hB (fun j hj => (hown.lt j hj).1)⟩
  unfold OwnI
  rw [intsV_append] at h1
  simpa using h1
theorem OwnI.keep {w w' : World} {B B' : Nat} {v : Value} {l : List Int} (h : OwnI w B v l) (hb : Below B' w w') (hB : w.heap.size ≤ B') : OwnI w' B v l := by
  have hown : w.ownsRow B 3 1 v l.length (intsV5 l) := h
  refine ⟨h.1, ?_⟩
  rcases h.2 with ⟨h1, h2⟩ | ⟨g, cap, cur, h1, hg, hh, hnc, hcp, hcs, htake⟩
  · exact .inl ⟨h1, h2⟩
  · have hlt : g < w.heap.size := (hown.lt g (by rw [h1]; rfl)).2
    exact .inr ⟨g, cap, cur, h1, hg, (hb.block g (Nat.lt_of_lt_of_le hlt hB)).trans hh, hnc, hcp, hcs, htake⟩
theorem chain_d {w w2 w3 : World} (h : Below w.heap.size w w2) (hb : Below w2.drew.heap.size w2.drew w3) : Below w.heap.size w w3 := by
  have h1 : Below w2.heap.size w2 w3 := (Below.refl w2.heap.size w2).drew.trans hb
  exact h.trans (h1.mono h.size)
/-- A slice that a call has just laid. -/
theorem ints_lit (w : World) (zs : List Int) (h0 : zs.length ≤ 9223372036854775807) : IntS (w.alloc (.cells (intsV5 zs).toArray 3)) (.slice (some ⟨w.heap.size, 0, none⟩) zs.length zs.length) zs := by
  refine ⟨_, zs.length, rfl, Nat.le_refl _, h0, fun _ => ⟨w.heap.size, 0, rfl, by simp, fun j hj => ?_⟩⟩
  rw [Nat.zero_add, World.cell?_alloc_at _ _ _ _ rfl]
  simp [intsV5, hj]
/-- Numbers that a word holds. -/
def Wf5 (zs : List Int) : Prop := ∀ z ∈ zs, -9223372036854775808 ≤ z ∧ z ≤ 9223372036854775807
theorem ownI_old {w wr w1 : World} {B : Nat} {v v' : Value} {r : List Int} (hB : B ≤ wr.heap.size) (hown : wr.ownsRow B 3 1 v 0 []) (hb : Below B w wr)
    (h1 : w1.ownsRow B 3 1 v' (0 + r.length) ([] ++ intsV5 r)) (hg : wr.grownBy w1 v.ownBlock) :
    OwnI w1 B v' r ∧ Below B w w1 := by
  refine ⟨?_, hb.grown hg hB (fun j hj => (hown.lt j hj).1)⟩
  unfold OwnI
  simpa using h1

theorem news_77 (w1 : World) : ∀ j u, [Value.int .i64 77][j]? = some u → (w1.alloc (.cells #[.int .i64 77] 3)).cell? ((⟨w1.heap.size, 0, none⟩ : Addr).add j) = some u := by
  intro j u hj
  match j, hj with
  | 0, hj => simp at hj; subst hj; simp [Addr.add]
theorem one_77 : ∀ u ∈ [Value.int .i64 77], u.oneCell' = true := by
  intro u hu
  simp at hu
  subst hu
  rfl
/-- A list with one number more behind it: the slice of the list, and the number. -/
theorem in_split {w : World} {B : Nat} {v : Value} {zs : List Int} {c : Int} (h : OwnI w B v (zs ++ [c])) : ∃ g cap, v = .slice (some ⟨g, 0, none⟩) (zs.length + 1) cap ∧ zs.length + 1 ≤ cap ∧ cap ≤ 9223372036854775807 ∧ g < w.heap.size ∧ w.cell? ⟨g, zs.length, none⟩ = some (.int .i64 c) ∧ IntS w (.slice (some ⟨g, 0, none⟩) zs.length cap) zs := by
  have hl : (zs ++ [c]).length = zs.length + 1 := by simp
  rcases h.2 with ⟨h1, h2⟩ | ⟨g, cap, cur, rfl, hg, hh, hnc, hcp, hcs, htake⟩
  · omega
  · have hown : w.ownsRow B 3 1 (.slice (some ⟨g, 0, none⟩) (zs ++ [c]).length cap) (zs ++ [c]).length (intsV5 (zs ++ [c])) := h
    unfold maxLen at hcp
    have hcell : ∀ j (hj : j < (zs ++ [c]).length), w.cell? ⟨g, j, none⟩ = some (.int .i64 (zs ++ [c])[j]) := fun j hj => by
      rw [hown.cellAt j (by omega)]
      show (intsV5 (zs ++ [c]))[j]? = _
      unfold intsV5
      rw [List.getElem?_map, List.getElem?_eq_getElem hj]
      rfl
    refine ⟨g, cap, by rw [hl], by omega, by omega, (hown.lt g rfl).2, ?_, ⟨_, cap, rfl, by omega, by omega, fun _ => ⟨g, 0, rfl, (hown.lt g rfl).2, fun j hj => ?_⟩⟩⟩
    · rw [hcell zs.length (by omega)]
      simp
    · rw [Nat.zero_add, hcell j (by omega), List.getElem_append_left hj]


end Go.Proofs.Ytpoeklgoepjikaa

/-
  What turn and endOfRow answer.
-/
namespace Go.Proofs.Ytpoeklgoepjikaa
open Go.RowKit

namespace Sp
theorem pw_nat (t : Nat) : pw t = ((2 ^ (6 * t) : Nat) : Int) := by
  unfold pw
  rw [Nat.pow_mul]
  simp
theorem pw_le (t : Nat) (h : t ≤ 3) : 1 ≤ pw t ∧ pw t ≤ 262144 := ⟨pw_pos t, (pw_cases t 3 (by omega) h).1⟩
theorem and_pw (x : Int) (t : Nat) (ht : t ≤ 3) (h0 : 0 ≤ x) (h1 : x < 1099511627776) : bits .and .i64 x (pw t - 1) = x % pw t := by
  rw [pw_nat]
  exact and_int x (6 * t) _ rfl h0 h1 (by omega)
theorem or_pw (x : Int) (t : Nat) (ht : t ≤ 3) (h0 : 0 ≤ x) (h1 : x < 1099511627776) : bits .or .i64 x (pw t - 1) = x - x % pw t + (pw t - 1) := by
  rw [pw_nat]
  exact or_int x (6 * t) _ rfl h0 h1 (by omega)
theorem clear_pw (x : Int) (t : Nat) (ht : t ≤ 3) (h0 : 0 ≤ x) (h1 : x < 1099511627776) : bits .andNot .i64 x (pw t - 1) = x - x % pw t := by
  rw [pw_nat]
  exact clear_int x (6 * t) _ rfl h0 h1 (by omega)
end Sp
namespace Sp
theorem endOf_lt {c last : Int} {tails t : Nat} (h : turns c last tails 0 = t) (ht : t < tails) : endOf c last tails = (min last (c - c % pw (t + 1) + (pw (t + 1) - 1)) + 1) - (min last (c - c % pw (t + 1) + (pw (t + 1) - 1)) + 1) % pw t - 1 := by
  unfold endOf
  rw [h]
  dsimp only
  rw [if_pos ht]
theorem endOf_eq {c last : Int} {tails t : Nat} (h : turns c last tails 0 = t) (ht : ¬ t < tails) : endOf c last tails = (last + 1) - (last + 1) % pw t - 1 := by
  unfold endOf
  rw [h]
  dsimp only
  rw [if_neg ht]
end Sp
theorem ret_iY {a b : Int} (h : a = b) : Ending.returned (.int .i64 a) = .returned (.int .i64 b) := by rw [h]
theorem turn_any (t : Nat) (ht : t ≤ 3) (w : World) : Calls Try.prog 47 #[.int .i64 t] w fun e w' => e = .returned (.int .i64 (Sp.pw t - 1)) ∧ w = w' := by
  have h : t = 0 ∨ t = 1 ∨ t = 2 ∨ t = 3 := by omega
  clear ht
  rcases h with rfl | rfl | rfl | rfl
  all_goals
    go_enter Try.func47, Try.ntmps47
    go_wp2_with fail
    go_ret
    exact ⟨ret_iY (by decide +kernel), rfl⟩

set_option maxRecDepth 100000 in
set_option maxHeartbeats 2000000 in
theorem endOf_any (c last : Int) (tails : Nat) (w : World) (h0 : 0 ≤ c) (hc : c ≤ last) (hl : last ≤ 1114111) (ht : tails ≤ 3) :
    Calls Try.prog 26 #[.int .i64 c, .int .i64 last, .int .i64 tails] w fun e w' => e = .returned (.int .i64 (Sp.endOf c last tails)) ∧ w = w' := by
  go_enter Try.func26, Try.ntmps26
  go_wp2_with fail
  go_loop [7] (fun i => ∃ t : Nat, t ≤ tails ∧ i = .int .i64 t ∧ Hid (Sp.turns c last tails 0 = Sp.turns c last (tails - t) t)) (fun i => tails - (intOf i).toNat)
  case atStart => exact ⟨0, Nat.zero_le _, rfl, rfl⟩
  case round =>
    obtain ⟨t, htl, rfl, hT⟩ := hrel
    by_cases hlt : t < tails
    · have i1 : (t : Int) < (tails : Int) := by omega
      have ht3 : t + 1 ≤ 3 := by omega
      have hand := Sp.and_pw c (t + 1) ht3 h0 (by omega)
      have hor := Sp.or_pw c (t + 1) ht3 h0 (by omega)
      obtain ⟨p1, p2⟩ := Sp.pw_le (t + 1) ht3
      have hm0 := Int.emod_nonneg c (show Sp.pw (t + 1) ≠ 0 by omega)
      have hm1 := Int.emod_lt_of_pos c (show 0 < Sp.pw (t + 1) by omega)
      have H : Hid (Calls Try.prog 47 #[.int .i64 ((t : Int) + 1)] w fun e w' => e = .returned (.int .i64 (Sp.pw (t + 1) - 1)) ∧ w = w') := by
        have := turn_any (t + 1) ht3 w
        rw [Int.natCast_succ] at this
        exact Lib.hid this
      obtain ⟨m, hm⟩ : ∃ m, tails - t = m + 1 := ⟨tails - t - 1, by omega⟩
      have hstep : Sp.turns c last (m + 1) t = if c % Sp.pw (t + 1) = 0 ∧ c + (Sp.pw (t + 1) - 1) ≤ last then Sp.turns c last m (t + 1) else t := rfl
      have hm2 : tails - (t + 1) = m := by omega
      have HT : Hid (c % Sp.pw (t + 1) = 0 ∧ c + (Sp.pw (t + 1) - 1) ≤ last → Sp.turns c last tails 0 = Sp.turns c last (tails - (t + 1)) (t + 1)) := by
        intro hh
        rw [hT.out, hm, hstep, if_pos hh, hm2]
      have HN : Hid (¬ (c % Sp.pw (t + 1) = 0 ∧ c + (Sp.pw (t + 1) - 1) ≤ last) → Sp.turns c last tails 0 = t) := by
        intro hh
        rw [hT.out, hm, hstep, if_neg hh]
      clear hm hstep hm2 hT
      by_cases hz : c % Sp.pw (t + 1) = 0
      · by_cases hle : c + (Sp.pw (t + 1) - 1) ≤ last
        · have hT2 : Hid (Sp.turns c last tails 0 = Sp.turns c last (tails - (t + 1)) (t + 1)) := HT.out ⟨hz, hle⟩
          rw [hz] at hand hor
          rw [Int.sub_zero] at hor
          clear hz hm0 hm1 HT HN
          generalize Sp.pw (t + 1) = P at *
          go_wp2_with (go_at_call 47; refine H.out.mono ?_; rintro e w' ⟨rfl, rfl⟩)
          go_round
          case rel => exact ⟨t + 1, by omega, by go_num, hT2⟩
          case measure => simp [intOf]; omega
        · have hfin : Hid (Sp.turns c last tails 0 = t) := HN.out (fun h => hle h.2)
          rw [hz] at hand hor
          rw [Int.sub_zero] at hor
          clear HT HN
          obtain ⟨q1, q2⟩ := Sp.pw_le t (by omega)
          have H0 := Lib.hid (turn_any t (by omega) w)
          have hE := Sp.endOf_lt hfin.out hlt
          skip
          clear hfin
          by_cases hmin : last ≤ c + (Sp.pw (t + 1) - 1)
          · rw [show min last (c - c % Sp.pw (t + 1) + (Sp.pw (t + 1) - 1)) = last by omega] at hE
            have hcl := Sp.clear_pw (last + 1) t (by omega) (by omega) (by omega)
            have HF := Lib.hid hE
            have hn0 := Int.emod_nonneg (last + 1) (show Sp.pw t ≠ 0 by omega)
            have hn1 := Int.emod_lt_of_pos (last + 1) (show 0 < Sp.pw t by omega)
            clear hE hz hm0 hm1
            generalize Sp.pw (t + 1) = P at *
            generalize Sp.pw t = R at *
            skip
            go_wp2_with (go_at_call 47; first | (refine H.out.mono ?_; rintro e w' ⟨rfl, rfl⟩) | (refine H0.out.mono ?_; rintro e w' ⟨rfl, rfl⟩))
            go_ret
            exact ⟨ret_iY HF.out.symm, rfl⟩
          · exact absurd (show c + (Sp.pw (t + 1) - 1) ≤ last by omega) hle
      · have hfin : Hid (Sp.turns c last tails 0 = t) := HN.out (fun h => hz h.1)
        have hz1 : (c % Sp.pw (t + 1) == 0) = false := by simpa using hz
        clear HT HN
        obtain ⟨q1, q2⟩ := Sp.pw_le t (by omega)
        have H0 := Lib.hid (turn_any t (by omega) w)
        have hE := Sp.endOf_lt hfin.out hlt
        skip
        clear hfin
        by_cases hmin : last ≤ c - c % Sp.pw (t + 1) + (Sp.pw (t + 1) - 1)
        · rw [show min last (c - c % Sp.pw (t + 1) + (Sp.pw (t + 1) - 1)) = last by omega] at hE
          have hcl := Sp.clear_pw (last + 1) t (by omega) (by omega) (by omega)
          have HF := Lib.hid hE
          have hn0 := Int.emod_nonneg (last + 1) (show Sp.pw t ≠ 0 by omega)
          have hn1 := Int.emod_lt_of_pos (last + 1) (show 0 < Sp.pw t by omega)
          clear hE hz
          generalize Sp.pw (t + 1) = P at *
          generalize Sp.pw t = R at *
          generalize c % P = cm at *
          go_wp2_with (go_at_call 47; first | (refine H.out.mono ?_; rintro e w' ⟨rfl, rfl⟩) | (refine H0.out.mono ?_; rintro e w' ⟨rfl, rfl⟩))
          go_ret
          exact ⟨ret_iY HF.out.symm, rfl⟩
        · rw [show min last (c - c % Sp.pw (t + 1) + (Sp.pw (t + 1) - 1)) = c - c % Sp.pw (t + 1) + (Sp.pw (t + 1) - 1) by omega] at hE
          have hcl := Sp.clear_pw (c - c % Sp.pw (t + 1) + (Sp.pw (t + 1) - 1) + 1) t (by omega) (by omega) (by omega)
          have HF := Lib.hid hE
          have hn0 := Int.emod_nonneg (c - c % Sp.pw (t + 1) + (Sp.pw (t + 1) - 1) + 1) (show Sp.pw t ≠ 0 by omega)
          have hn1 := Int.emod_lt_of_pos (c - c % Sp.pw (t + 1) + (Sp.pw (t + 1) - 1) + 1) (show 0 < Sp.pw t by omega)
          clear hE hz
          generalize Sp.pw (t + 1) = P at *
          generalize Sp.pw t = R at *
          generalize c % P = cm at *
          go_wp2_with (go_at_call 47; first | (refine H.out.mono ?_; rintro e w' ⟨rfl, rfl⟩) | (refine H0.out.mono ?_; rintro e w' ⟨rfl, rfl⟩))
          go_ret
          exact ⟨ret_iY HF.out.symm, rfl⟩
    · have hfin : Hid (Sp.turns c last tails 0 = t) := by
        show _ = _
        rw [hT.out, show tails - t = 0 by omega]
        rfl
      have H0 := Lib.hid (turn_any t (by omega) w)
      have H := H0
      obtain ⟨q1, q2⟩ := Sp.pw_le t (by omega)
      have hE := Sp.endOf_eq hfin.out hlt
      have hcl := Sp.clear_pw (last + 1) t (by omega) (by omega) (by omega)
      have HF := Lib.hid hE
      have hn0 := Int.emod_nonneg (last + 1) (show Sp.pw t ≠ 0 by omega)
      have hn1 := Int.emod_lt_of_pos (last + 1) (show 0 < Sp.pw t by omega)
      clear hfin hT hE
      generalize Sp.pw t = R at *
      go_wp2_with (go_at_call 47; first | (refine H.out.mono ?_; rintro e w' ⟨rfl, rfl⟩) | (refine H0.out.mono ?_; rintro e w' ⟨rfl, rfl⟩))
      go_ret
      exact ⟨ret_iY HF.out.symm, rfl⟩
end Go.Proofs.Ytpoeklgoepjikaa

/-
  The small functions: which numbers are characters, which stand in words, what they are folded to; the program's and the document's own.
-/
namespace Go.Proofs.Ytpoeklgoepjikaa
open Go.RowKit

namespace Ut
/-- A number is in one of the ranges. -/
def among (c : Int) : List Int → Bool
  | a :: b :: r => decide (a ≤ c ∧ c ≤ b) || among c r
  | _ => false
/-- A number stands in words. -/
def letter (c : Int) : Bool := among c [97, 122, 65, 90, 48, 57, 192, 214, 216, 246, 248, 591, 880, 893, 895, 1153, 1155, 1327, 19968, 40959]
/-- What a number is folded to. -/
def fold (c : Int) : Int :=
  if among c [65, 90, 192, 214, 216, 222, 913, 929, 931, 937, 1040, 1071] = true then c + 32
  else if 1024 ≤ c ∧ c ≤ 1039 then c + 80 else if c = 962 then 963 else c
theorem fold_far (c : Int) (h : c < 0 ∨ 1071 < c) : fold c = c := by
  have hn : among c [65, 90, 192, 214, 216, 222, 913, 929, 931, 937, 1040, 1071] = false := by
    simp only [among, Bool.or_eq_false_iff, decide_eq_false_iff_not]
    refine ⟨?_, ?_, ?_, ?_, ?_, ?_, trivial⟩ <;> omega
  unfold fold
  rw [hn, if_neg Bool.false_ne_true, if_neg (by omega), if_neg (by omega)]
theorem fold_near : ∀ n : Fin 1072, ((n.val : Int) ≤ fold (n.val : Int) ∧ fold (n.val : Int) ≤ (n.val : Int) + 80) ∧ fold (fold (n.val : Int)) = fold (n.val : Int) ∧ (letter (n.val : Int) = true → letter (fold (n.val : Int)) = true) := by decide +kernel
theorem fold_all (c : Int) : (c ≤ fold c ∧ fold c ≤ c + 80) ∧ fold (fold c) = fold c ∧ (letter c = true → letter (fold c) = true) := by
  by_cases h : c < 0 ∨ 1071 < c
  · rw [fold_far c h, fold_far c h]
    exact ⟨by omega, rfl, id⟩
  · have := fold_near ⟨c.toNat, by omega⟩
    rw [show (((⟨c.toNat, by omega⟩ : Fin 1072).val : Nat) : Int) = c from by show ((c.toNat : Nat) : Int) = c; omega] at this
    exact this
theorem fold_bound (c : Int) : c ≤ fold c ∧ fold c ≤ c + 80 := (fold_all c).1
theorem fold_fold (c : Int) : fold (fold c) = fold c := (fold_all c).2.1
theorem whole_fold (c : Int) (h : whole c = true) : whole (fold c) = true := by
  by_cases hf : c < 0 ∨ 1071 < c
  · rw [fold_far c hf]; exact h
  · have := fold_bound c
    rw [whole_iff] at *
    omega
theorem letter_whole (c : Int) (h : letter c = true) : whole c = true ∧ letter (fold c) = true := by
  refine ⟨?_, (fold_all c).2.2 h⟩
  unfold letter at h
  simp only [among, Bool.or_eq_true, decide_eq_true_iff] at h
  rw [whole_iff]
  rcases h with h | h | h | h | h | h | h | h | h | h | h
  all_goals first | (cases h; done) | omega
theorem fold_len_near : ∀ n : Fin 1072, (Lib.encodeRune (fold (n.val : Int))).length ≤ (Lib.encodeRune (n.val : Int)).length := by decide +kernel
theorem fold_len (c : Int) : (Lib.encodeRune (fold c)).length ≤ (Lib.encodeRune c).length := by
  by_cases hf : c < 0 ∨ 1071 < c
  · rw [fold_far c hf]; exact Nat.le_refl _
  · have := fold_len_near ⟨c.toNat, by omega⟩
    rw [show (((⟨c.toNat, by omega⟩ : Fin 1072).val : Nat) : Int) = c from by show ((c.toNat : Nat) : Int) = c; omega] at this
    exact this
end Ut

theorem ret_bool {a b : Bool} (h : a = b) : Ending.returned (.bool a) = .returned (.bool b) := by rw [h]
theorem ret_i {k : IntKind} {a b : Int} (h : a = b) : Ending.returned (.int k a) = .returned (.int k b) := by rw [h]

set_option maxHeartbeats 400000 in
theorem within_any (c lo hi : Int) (w : World) :
    Calls Try.prog 78 #[.int .i64 c, .int .i64 lo, .int .i64 hi] w fun e w' => e = .returned (.bool (decide (lo ≤ c ∧ c ≤ hi))) ∧ w = w' := by
  by_cases h1 : lo ≤ c
  · by_cases h2 : c ≤ hi
    · have e : decide (lo ≤ c ∧ c ≤ hi) = true := decide_eq_true ⟨h1, h2⟩
      rw [e]
      go_enter Try.func78, Try.ntmps78
      go_wp2_with fail
      go_ret
      exact ⟨rfl, rfl⟩
    · have e : decide (lo ≤ c ∧ c ≤ hi) = false := decide_eq_false (fun h => h2 h.2)
      rw [e]
      go_enter Try.func78, Try.ntmps78
      go_wp2_with fail
      go_ret
      exact ⟨rfl, rfl⟩
  · have e : decide (lo ≤ c ∧ c ≤ hi) = false := decide_eq_false (fun h => h1 h.1)
    rw [e]
    go_enter Try.func78, Try.ntmps78
    go_wp2_with fail
    go_ret
    exact ⟨rfl, rfl⟩

set_option maxHeartbeats 1000000 in
theorem whole_any (c : Int) (w : World) :
    Calls Try.prog 60 #[.int .i64 c] w fun e w' => e = .returned (.bool (Ut.whole c)) ∧ w = w' := by
  have h1 := Lib.hid (within_any c 0 55295 w)
  have h2 := Lib.hid (within_any c 57344 1114111 w)
  have hw : Hid (Ut.whole c = (decide (0 ≤ c ∧ c ≤ 55295) || decide (57344 ≤ c ∧ c ≤ 1114111))) := by
    show _ = _
    rw [Bool.eq_iff_iff, Ut.whole_iff, Bool.or_eq_true, decide_eq_true_iff, decide_eq_true_iff]
    omega
  generalize decide (0 ≤ c ∧ c ≤ 55295) = a at *
  generalize decide (57344 ≤ c ∧ c ≤ 1114111) = b at *
  go_enter Try.func60, Try.ntmps60
  go_wp2_with fail
  refine h1.out.mono ?_
  rintro e w1 ⟨rfl, rfl⟩
  cases a
  · go_wp2_with fail
    refine h2.out.mono ?_
    rintro e w1 ⟨rfl, rfl⟩
    go_wp2_with fail
    go_ret
    exact ⟨by rw [hw.out]; rfl, rfl⟩
  · go_wp2_with fail
    go_ret
    exact ⟨by rw [hw.out]; rfl, rfl⟩

set_option maxHeartbeats 1000000 in
theorem wholeR_any (c : Int) (w : World) :
    Calls Try.prog 30 #[.int .i64 c] w fun e w' => e = .returned (.bool (Ut.whole c)) ∧ w = w' := by
  have hw : ∀ b, (Ut.whole c = b) → Hid (Ut.whole c = b) := fun _ h => h
  by_cases h1 : 0 ≤ c
  · by_cases h2 : c < 55296
    · have hb := hw true (Ut.whole_iff.2 (by omega))
      go_enter Try.func30, Try.ntmps30
      go_wp2_with fail
      go_ret
      exact ⟨by rw [hb.out]; rfl, rfl⟩
    · by_cases h3 : 57343 < c
      · by_cases h4 : c < 1114112
        · have hb := hw true (Ut.whole_iff.2 (by omega))
          go_enter Try.func30, Try.ntmps30
          go_wp2_with fail
          go_ret
          exact ⟨by rw [hb.out]; rfl, rfl⟩
        · have hb := hw false (by rw [← Bool.not_eq_true, Ut.whole_iff]; omega)
          go_enter Try.func30, Try.ntmps30
          go_wp2_with fail
          go_ret
          exact ⟨by rw [hb.out]; rfl, rfl⟩
      · have hb := hw false (by rw [← Bool.not_eq_true, Ut.whole_iff]; omega)
        go_enter Try.func30, Try.ntmps30
        go_wp2_with fail
        go_ret
        exact ⟨by rw [hb.out]; rfl, rfl⟩
  · have hb := hw false (by rw [← Bool.not_eq_true, Ut.whole_iff]; omega)
    have h3 : ¬ 57343 < c := by omega
    go_enter Try.func30, Try.ntmps30
    go_wp2_with fail
    go_ret
    exact ⟨by rw [hb.out]; rfl, rfl⟩

theorem letter_split (c : Int) (h1 : ¬ c = 215) (h2 : ¬ c = 247) (h3 : ¬ c = 894) (h4 : ¬ c = 1154) :
    Ut.letter c = (decide (97 ≤ c ∧ c ≤ 122) || (decide (65 ≤ c ∧ c ≤ 90) || (decide (48 ≤ c ∧ c ≤ 57) || (decide (192 ≤ c ∧ c ≤ 591) || (decide (880 ≤ c ∧ c ≤ 1327) || decide (19968 ≤ c ∧ c ≤ 40959)))))) := by
  have e1 : decide (192 ≤ c ∧ c ≤ 591) = (decide (192 ≤ c ∧ c ≤ 214) || (decide (216 ≤ c ∧ c ≤ 246) || decide (248 ≤ c ∧ c ≤ 591))) := by
    rw [← Bool.decide_or, ← Bool.decide_or]
    exact decide_eq_decide.2 (by omega)
  have e2 : decide (880 ≤ c ∧ c ≤ 1327) = (decide (880 ≤ c ∧ c ≤ 893) || (decide (895 ≤ c ∧ c ≤ 1153) || decide (1155 ≤ c ∧ c ≤ 1327))) := by
    rw [← Bool.decide_or, ← Bool.decide_or]
    exact decide_eq_decide.2 (by omega)
  rw [e1, e2]
  simp only [Ut.letter, Ut.among, Bool.or_assoc, Bool.or_false]
theorem fold_split (c : Int) (h1 : ¬ c = 215) (h2 : ¬ c = 930) :
    Ut.fold c = if (decide (65 ≤ c ∧ c ≤ 90) || (decide (192 ≤ c ∧ c ≤ 222) || (decide (913 ≤ c ∧ c ≤ 937) || decide (1040 ≤ c ∧ c ≤ 1071)))) = true then c + 32 else if decide (1024 ≤ c ∧ c ≤ 1039) = true then c + 80 else if c = 962 then 963 else c := by
  have e1 : decide (192 ≤ c ∧ c ≤ 222) = (decide (192 ≤ c ∧ c ≤ 214) || decide (216 ≤ c ∧ c ≤ 222)) := by
    rw [← Bool.decide_or]
    exact decide_eq_decide.2 (by omega)
  have e2 : decide (913 ≤ c ∧ c ≤ 937) = (decide (913 ≤ c ∧ c ≤ 929) || decide (931 ≤ c ∧ c ≤ 937)) := by
    rw [← Bool.decide_or]
    exact decide_eq_decide.2 (by omega)
  rw [e1, e2]
  simp only [Ut.fold, Ut.among, Bool.or_assoc, Bool.or_false, decide_eq_true_iff]
end Go.Proofs.Ytpoeklgoepjikaa

/-
  append onto numbers of the call's own, as laws for the walk; a range over a text beside such numbers.
-/
namespace Go.Proofs.Ytpoeklgoepjikaa
open Go.RowKit

/-- 'append(v, c)' of one number, which lies in a new block. -/
theorem wpList_pushI {ops : Array Oper} {rest : List Oper} {o : Oper} {a : Act} {Q : Exit → Act → World → Prop} {w : World} (hgd : o.guard = none) (s x : Operand)
    (ho : o.op = .call { callee := .builtin .append, args := #[s, x], argTypes := #[23, 23] })
    (B : Nat) (hB : B ≤ w.heap.size) (v : Value) (l : List Int) (c : Int) (hs : a.eval s = v) (h : OwnI w B v l) (hx : a.eval x = .slice (some ⟨w.heap.size, 0, none⟩) 1 1)
    (hb : l.length + 1 ≤ 17592186044416)
    (hk : ∀ v' w', OwnI w' B v' (l ++ [c]) → Below B w w' → (w.alloc (.cells #[.int .i64 c] 3)).grownBy w' v.ownBlock → wpList Try.prog ops Q rest (a.put o.dst v') w') :
    wpList Try.prog ops Q (o :: rest) a (w.alloc (.cells #[.int .i64 c] 3)) := by
  obtain ⟨ii, hi, hz0, hz1, hz2⟩ := info_parts Try.infoI
  have hown : w.ownsRow B 3 1 v l.length (intsV5 l) := h
  refine wpList_append_own _ hgd s x 23 ho B 3 ii (.int .i64 0) 1 8 Try.underlying23 hi hz0 hz1 hz2 rfl (by decide) _ _ _ hs (hown.alloc _) ⟨w.heap.size, 0, none⟩ 1 1 [.int .i64 c] hx rfl ?_ ?_ (by unfold maxLen; omega) (by omega) (by simp; omega) ?_
  · intro j u hj
    match j, hj with
    | 0, hj => simp at hj; subst hj; simp [Addr.add]
  · intro u hu
    simp at hu
    subst hu
    rfl
  · intro v' w' h1 h2 _
    obtain ⟨h3, h4⟩ := ownI_push hB h (Below.refl B w) h1 h2
    exact hk v' w' h3 h4 h2

/-- 'append(v, r...)' of numbers that lie elsewhere. -/
theorem wpList_appI {ops : Array Oper} {rest : List Oper} {o : Oper} {a : Act} {Q : Exit → Act → World → Prop} {w : World} (hgd : o.guard = none) (s x : Operand)
    (ho : o.op = .call { callee := .builtin .append, args := #[s, x], argTypes := #[23, 23] })
    (B : Nat) (hB : B ≤ w.heap.size) (v : Value) (l r : List Int) (hs : a.eval s = v) (h : OwnI w B v l) (ad : Addr) (c : Nat) (hx : a.eval x = .slice (some ad) r.length c)
    (hr : IntS w (.slice (some ad) r.length c) r) (hb : l.length + r.length ≤ 17592186044416)
    (hk : ∀ v' w', OwnI w' B v' (l ++ r) → Below B w w' → wpList Try.prog ops Q rest (a.put o.dst v') w') :
    wpList Try.prog ops Q (o :: rest) a w := by
  obtain ⟨ii, hi, hz0, hz1, hz2⟩ := info_parts Try.infoI
  have hown : w.ownsRow B 3 1 v l.length (intsV5 l) := h
  refine wpList_append_own _ hgd s x 23 ho B 3 ii (.int .i64 0) 1 8 Try.underlying23 hi hz0 hz1 hz2 rfl (by decide) _ _ _ hs hown ad r.length c (intsV5 r) hx (by rw [intsV_length, Nat.mul_one]) ?_ ?_ (by unfold maxLen; omega) (by omega) hB ?_
  · intro j u hj
    have hjr : j < r.length := by
      have := (List.getElem?_eq_some_iff.1 hj).1
      simpa [intsV5] using this
    obtain ⟨a', cap', hv, _, _, hc⟩ := hr
    obtain ⟨g, o', ha, _, hcl⟩ := hc (by omega)
    simp only [Value.slice.injEq] at hv
    obtain ⟨hv1, _, _⟩ := hv
    rw [← hv1] at ha
    obtain rfl := Option.some.inj ha
    rw [Addr.add_lit, hcl j hjr]
    simp [intsV5, hjr] at hj
    rw [← hj]
  · intro u hu
    obtain ⟨x, _, rfl⟩ := List.mem_map.1 hu
    rfl
  · intro v' w' h1 h2 _
    obtain ⟨h3, h4⟩ := ownI_pushAll hB h (Below.refl B w) h1 h2
    exact hk v' w' h3 h4

theorem OwnI.of_heap {w w' : World} {B : Nat} {v : Value} {l : List Int} (h : OwnI w B v l) (e : ∀ k, v.ownBlock = some k → k < w.heap.size → w'.heap[k]? = w.heap[k]?) : OwnI w' B v l := by
  have hown : w.ownsRow B 3 1 v l.length (intsV5 l) := h
  refine ⟨h.1, ?_⟩
  rcases h.2 with ⟨h1, h2⟩ | ⟨g, cap, cur, h1, hg, hh, hnc, hcp, hcs, htake⟩
  · exact .inl ⟨h1, h2⟩
  · have hlt : g < w.heap.size := (hown.lt g (by rw [h1]; rfl)).2
    exact .inr ⟨g, cap, cur, h1, hg, (e g (by rw [h1]; rfl) hlt).trans hh, hnc, hcp, hcs, htake⟩
/-- The row of numbers is not the iterator. -/
theorem OwnI.ne_iter {w : World} {B : Nat} {v : Value} {l : List Int} {K : Nat} {s : ByteArray} {pos : Nat} (h : OwnI w B v l) (hk : w.heap[K]? = some (.stringIter s pos)) : ∀ k, v.ownBlock = some k → k ≠ K := by
  intro k hv e
  subst e
  rcases h.2 with ⟨h1, _⟩ | ⟨g, cap, cur, h1, hg, hh, _⟩
  · rw [h1] at hv; cases hv
  · rw [h1] at hv
    obtain rfl : g = k := by simpa [Value.ownBlock] using hv
    rw [hk] at hh
    cases hh
theorem OwnI.iterAt {w : World} {B : Nat} {v : Value} {l : List Int} {K : Nat} {s : ByteArray} {pos : Nat} (h : OwnI w B v l) (hk : w.heap[K]? = some (.stringIter s pos)) (pos' : Nat) : OwnI (w.iterAt K s pos') B v l :=
  h.of_heap fun k hv _ => by
    have hne := h.ne_iter hk k hv
    simp only [World.iterAt]
    rw [Array.getElem?_setIfInBounds_ne (Ne.symm hne)]
theorem below_iterAt {B : Nat} {w0 w : World} {K : Nat} {s : ByteArray} (h : Below B w0 w) (hK : B ≤ K) (pos' : Nat) : Below B w0 (w.iterAt K s pos') :=
  h.trans ⟨rfl, rfl, rfl, by simp [World.iterAt], fun k hk => by simp only [World.iterAt]; rw [Array.getElem?_setIfInBounds_ne (by omega)]⟩
end Go.Proofs.Ytpoeklgoepjikaa

/-
  Loose states in which rows lead from one to another, plainly: what is built, and which words lead where; no program is named here.
-/
namespace Go.Proofs.Ytpoeklgoepjikaa.Sp
open Go.Lib
open Au (Arc Lo)

/-- One arc more of a state. -/
def addArc (n : List Lo) (p : Nat) (a : Arc) : List Lo := n.modify p fun s => ⟨s.fin, s.arcs ++ [a], s.free⟩
/-- The texts of a row lead from one state to another. -/
def leadBy (to_ : Nat) : List Lo → Nat → List (Int × Int) → List Lo
  | n, _, [] => n
  | n, p, [r] => addArc n p ⟨r.1, r.2, to_⟩
  | n, p, r :: r' :: rs => leadBy to_ (addArc (n ++ [⟨false, [], []⟩]) p ⟨r.1, r.2, n.length⟩) n.length (r' :: rs)
def lead (n : List Lo) (p q : Nat) (R : List (List (Int × Int))) : List Lo := R.foldl (fun n row => leadBy q n p row) n
/-- The states behind the first byte of a row. -/
def chainL (to_ : Nat) : Nat → List (Int × Int) → List Lo
  | _, [] => []
  | k, r :: rs => ⟨false, [⟨r.1, r.2, if rs = [] then (to_ : Int) else ((k + 1 : Nat) : Int)⟩], []⟩ :: chainL to_ (k + 1) rs
theorem chainL_length (to_ : Nat) : ∀ k rs, (chainL to_ k rs).length = rs.length
  | _, [] => rfl
  | k, _ :: rs => by simp [chainL, chainL_length to_ (k + 1) rs]
theorem chainL_at (to_ : Nat) : ∀ k (rs : List (Int × Int)) j (h : j < rs.length), (chainL to_ k rs)[j]? = some ⟨false, [⟨rs[j].1, rs[j].2, if j + 1 = rs.length then (to_ : Int) else ((k + j + 1 : Nat) : Int)⟩], []⟩
  | k, r :: rs, 0, _ => by
    have e : (rs = []) ↔ (0 + 1 = (r :: rs).length) := by cases rs <;> simp
    simp only [chainL, List.getElem?_cons_zero, List.getElem_cons_zero]
    by_cases h : rs = []
    · rw [if_pos h, if_pos (e.1 h)]
    · rw [if_neg h, if_neg (fun q => h (e.2 q))]
  | k, r :: rs, j + 1, h => by
    have h' : j < rs.length := by simpa using h
    have := chainL_at to_ (k + 1) rs j h'
    simp only [chainL, List.getElem?_cons_succ, List.getElem_cons_succ, List.length_cons]
    rw [this]
    simp only [Nat.add_right_cancel_iff]
    by_cases q : j + 1 = rs.length
    · rw [if_pos q, if_pos q]
    · rw [if_neg q, if_neg q, show k + 1 + j + 1 = k + (j + 1) + 1 by omega]
theorem addArc_length (n : List Lo) (p : Nat) (a : Arc) : (addArc n p a).length = n.length := by simp [addArc]
theorem addArc_at (n : List Lo) (p : Nat) (a : Arc) (i : Nat) : (addArc n p a)[i]? = (n[i]?).map fun s => if p = i then ⟨s.fin, s.arcs ++ [a], s.free⟩ else s := by
  unfold addArc
  rw [List.getElem?_modify]
  by_cases h : p = i
  · simp [h]
  · simp [h]
theorem addArc_append (n r : List Lo) (p : Nat) (a : Arc) (h : p < n.length) : addArc (n ++ r) p a = addArc n p a ++ r := by
  apply List.ext_getElem?
  intro i
  rw [addArc_at]
  by_cases hi : i < n.length
  · rw [List.getElem?_append_left hi, List.getElem?_append_left (by rw [addArc_length]; exact hi), addArc_at]
  · rw [List.getElem?_append_right (by omega), List.getElem?_append_right (by rw [addArc_length]; omega), addArc_length]
    have : p ≠ i := by omega
    simp [this]
theorem addArc_last (n : List Lo) (s : Lo) (p : Nat) (a : Arc) (h : p = n.length) : addArc (n ++ [s]) p a = n ++ [⟨s.fin, s.arcs ++ [a], s.free⟩] := by
  subst h
  apply List.ext_getElem?
  intro i
  rw [addArc_at]
  by_cases hi : i < n.length
  · have : n.length ≠ i := by omega
    rw [List.getElem?_append_left hi, List.getElem?_append_left hi]
    simp [this]
  · rw [List.getElem?_append_right (by omega), List.getElem?_append_right (by omega)]
    by_cases e : i = n.length
    · subst e; simp
    · rw [List.getElem?_eq_none (by simp; omega), List.getElem?_eq_none (by simp; omega)]
      rfl
theorem leadBy_form (to_ : Nat) : ∀ (rs : List (Int × Int)) (r : Int × Int) (n : List Lo) (p : Nat), p < n.length →
    leadBy to_ n p (r :: rs) = addArc n p ⟨r.1, r.2, if rs = [] then (to_ : Int) else (n.length : Int)⟩ ++ chainL to_ n.length rs
  | [], r, n, p, _ => by simp [leadBy, chainL]
  | r' :: rs, r, n, p, h => by
    show leadBy to_ (addArc (n ++ [⟨false, [], []⟩]) p ⟨r.1, r.2, n.length⟩) n.length (r' :: rs) = _
    have hl : (addArc (n ++ [(⟨false, [], []⟩ : Lo)]) p ⟨r.1, r.2, n.length⟩).length = n.length + 1 := by rw [addArc_length]; simp
    rw [leadBy_form to_ rs r' _ n.length (by omega), hl, addArc_append n _ p _ h, addArc_last _ _ _ _ (by rw [addArc_length])]
    rw [if_neg (show ¬ (r' :: rs = []) by simp)]
    simp only [chainL, List.nil_append, List.append_assoc, List.singleton_append]
theorem leadBy_length (to_ : Nat) (n : List Lo) (p : Nat) (row : List (Int × Int)) (h : p < n.length) : (leadBy to_ n p row).length = n.length + (row.length - 1) := by
  cases row with
  | nil => simp [leadBy]
  | cons r rs => rw [leadBy_form to_ rs r n p h, List.length_append, addArc_length, chainL_length]; simp
theorem lead_snoc (n : List Lo) (p q : Nat) (R : List (List (Int × Int))) (row : List (Int × Int)) : lead n p q (R ++ [row]) = leadBy q (lead n p q R) p row := by
  unfold lead
  rw [List.foldl_append]
  rfl

/-- A row that leads from a state to another. -/
structure Edge where
  src : Nat
  row : List (Int × Int)
  dst : Nat
def nxt (st : Nat → Nat → Nat) (e : Nat) (ed : Edge) (j : Nat) : Nat := if j = ed.row.length then ed.dst else st e j
/-- Loose states: the first m ones with what they had, rows by way of states of their own. -/
structure Led (m : Nat) (base : Nat → Lo) (E : List Edge) (st : Nat → Nat → Nat) (n : List Lo) : Prop where
  size : m ≤ n.length
  main : ∀ p, p < m → ∃ A : List Arc, n[p]? = some ⟨(base p).fin, (base p).arcs ++ A, (base p).free⟩ ∧
    ∀ a, a ∈ A ↔ ∃ e ed r, E[e]? = some ed ∧ ed.src = p ∧ ed.row[0]? = some r ∧ a = ⟨r.1, r.2, (nxt st e ed 1 : Nat)⟩
  chain : ∀ e ed j r, E[e]? = some ed → 1 ≤ j → ed.row[j]? = some r → n[st e j]? = some ⟨false, [⟨r.1, r.2, (nxt st e ed (j + 1) : Nat)⟩], []⟩ ∧ m ≤ st e j
  inj : ∀ e ed j e' ed' j', E[e]? = some ed → 1 ≤ j → j < ed.row.length → E[e']? = some ed' → 1 ≤ j' → j' < ed'.row.length → st e j = st e' j' → e = e' ∧ j = j'
  all : ∀ k, m ≤ k → k < n.length → ∃ e ed j, E[e]? = some ed ∧ 1 ≤ j ∧ j < ed.row.length ∧ k = st e j
  src : ∀ ed ∈ E, ed.src < m ∧ ed.dst < m ∧ 0 < ed.row.length
theorem Led.nil (n : List Lo) (base : Nat → Lo) (hb : ∀ p, p < n.length → n[p]? = some (base p)) (st : Nat → Nat → Nat) : Led n.length base [] st n := by
  refine ⟨Nat.le_refl _, fun p hp => ⟨[], by rw [hb p hp]; simp, fun a => ⟨fun h => (by simp at h), fun ⟨e, ed, r, h, _⟩ => (by simp at h)⟩⟩, fun e ed j r h => by simp at h, fun e ed j e' ed' j' h => by simp at h, fun k h1 h2 => by omega, fun ed h => by simp at h⟩
/-- One row more. -/
theorem Led.snoc {m : Nat} {base : Nat → Lo} {E : List Edge} {st : Nat → Nat → Nat} {n : List Lo} (h : Led m base E st n) (p q : Nat) (row : List (Int × Int)) (hp : p < m) (hq : q < m) (hr : 0 < row.length) :
    Led m base (E ++ [⟨p, row, q⟩]) (fun e j => if e = E.length then n.length + j - 1 else st e j) (leadBy q n p row) := by
  obtain ⟨r, rs, rfl⟩ : ∃ r rs, row = r :: rs := by cases row with | nil => simp at hr | cons r rs => exact ⟨r, rs, rfl⟩
  have hsz := h.size
  have hform := leadBy_form q rs r n p (by omega)
  have hE : ∀ e ed, (E ++ [(⟨p, r :: rs, q⟩ : Edge)])[e]? = some ed ↔ (e < E.length ∧ E[e]? = some ed) ∨ (e = E.length ∧ ed = ⟨p, r :: rs, q⟩) := fun e ed => by
    by_cases he : e < E.length
    · rw [List.getElem?_append_left he]
      constructor
      · exact fun h => .inl ⟨he, h⟩
      · rintro (⟨_, h⟩ | ⟨h, _⟩)
        · exact h
        · omega
    · rw [List.getElem?_append_right (by omega)]
      constructor
      · intro h2
        obtain ⟨h3, h4⟩ := List.getElem?_eq_some_iff.1 h2
        have h5 : e - E.length = 0 := by simp at h3; omega
        simp only [h5, List.getElem_cons_zero] at h4
        exact .inr ⟨by omega, h4.symm⟩
      · rintro (⟨h, _⟩ | ⟨h, rfl⟩)
        · omega
        · simp [h]
  have hlt : ∀ {e ed}, E[e]? = some ed → e < E.length := fun he => (List.getElem?_eq_some_iff.1 he).1
  have hnx : ∀ {e ed} j, E[e]? = some ed → nxt (fun e j => if e = E.length then n.length + j - 1 else st e j) e ed j = nxt st e ed j := fun j he => by
    have := hlt he
    unfold nxt
    dsimp only
    rw [if_neg (show ¬ _ = E.length by omega)]
  have hnn : ∀ j, nxt (fun e j => if e = E.length then n.length + j - 1 else st e j) E.length ⟨p, r :: rs, q⟩ j = if j = rs.length + 1 then q else n.length + j - 1 := fun j => by
    unfold nxt
    dsimp only
    rw [if_pos rfl]
    rfl
  have hold : ∀ i, i < n.length → i ≠ p → (leadBy q n p (r :: rs))[i]? = n[i]? := fun i hi hip => by
    rw [hform, List.getElem?_append_left (by rw [addArc_length]; exact hi), addArc_at]
    have : ¬ p = i := fun e => hip e.symm
    simp [this]
  have hnew : ∀ j (hj : j < rs.length), (leadBy q n p (r :: rs))[n.length + j]? = some ⟨false, [⟨rs[j].1, rs[j].2, if j + 1 = rs.length then (q : Int) else ((n.length + j + 1 : Nat) : Int)⟩], []⟩ := fun j hj => by
    rw [hform, List.getElem?_append_right (by rw [addArc_length]; omega), addArc_length, Nat.add_sub_cancel_left]
    exact chainL_at q n.length rs j hj
  refine ⟨by rw [leadBy_length _ _ _ _ (by omega)]; omega, fun p' hp' => ?_, fun e ed j r' he hj hr' => ?_, fun e ed j e' ed' j' he hj hj2 he' hj' hj2' hst => ?_, fun k hk1 hk2 => ?_, fun ed hed => ?_⟩
  · obtain ⟨A, h1, h2⟩ := h.main p' hp'
    by_cases e : p' = p
    · subst e
      refine ⟨A ++ [⟨r.1, r.2, if rs = [] then (q : Int) else (n.length : Int)⟩], ?_, fun a => ?_⟩
      · rw [hform, List.getElem?_append_left (by rw [addArc_length]; omega), addArc_at, h1]
        simp
      · rw [List.mem_append, h2, List.mem_singleton]
        constructor
        · rintro (⟨e, ed, r2, he, h3, h4, rfl⟩ | rfl)
          · exact ⟨e, ed, r2, (hE _ _).2 (.inl ⟨hlt he, he⟩), h3, h4, by rw [hnx 1 he]⟩
          · refine ⟨E.length, ⟨p', r :: rs, q⟩, r, (hE _ _).2 (.inr ⟨rfl, rfl⟩), rfl, rfl, ?_⟩
            rw [hnn]
            cases rs <;> simp
        · rintro ⟨e, ed, r2, he, h3, h4, rfl⟩
          rcases (hE _ _).1 he with ⟨_, he⟩ | ⟨rfl, rfl⟩
          · exact .inl ⟨e, ed, r2, he, h3, h4, by rw [hnx 1 he]⟩
          · right
            simp at h4
            subst h4
            rw [hnn]
            cases rs <;> simp
    · refine ⟨A, by rw [hold p' (by omega) e, h1], fun a => ?_⟩
      rw [h2]
      constructor
      · rintro ⟨e, ed, r2, he, h3, h4, rfl⟩
        exact ⟨e, ed, r2, (hE _ _).2 (.inl ⟨hlt he, he⟩), h3, h4, by rw [hnx 1 he]⟩
      · rintro ⟨e2, ed, r2, he, h3, h4, rfl⟩
        rcases (hE _ _).1 he with ⟨_, he⟩ | ⟨rfl, rfl⟩
        · exact ⟨e2, ed, r2, he, h3, h4, by rw [hnx 1 he]⟩
        · exact absurd h3.symm e
  · rcases (hE _ _).1 he with ⟨hl, he⟩ | ⟨rfl, rfl⟩
    · obtain ⟨h1, h2⟩ := h.chain e ed j r' he hj hr'
      rw [if_neg (show ¬ e = E.length by omega), hnx _ he]
      have hs : st e j < n.length := (List.getElem?_eq_some_iff.1 h1).1
      exact ⟨by rw [hold _ hs (by omega)]; exact h1, h2⟩
    · rw [if_pos rfl, hnn]
      obtain ⟨j, rfl⟩ : ∃ i, j = i + 1 := ⟨j - 1, by omega⟩
      have hj3 : j < rs.length := by
        have := (List.getElem?_eq_some_iff.1 hr').1
        simpa using this
      have e1 : r' = rs[j] := by
        have := (List.getElem?_eq_some_iff.1 hr').2
        simpa using this.symm
      subst e1
      rw [show n.length + (j + 1) - 1 = n.length + j by omega, hnew j hj3]
      refine ⟨?_, by omega⟩
      by_cases q1 : j + 1 = rs.length
      · rw [if_pos q1, if_pos (by omega)]
      · rw [if_neg q1, if_neg (by omega), show n.length + (j + 1 + 1) - 1 = n.length + j + 1 by omega]
  · have hs : ∀ {e ed j}, E[e]? = some ed → 1 ≤ j → j < ed.row.length → st e j < n.length := fun {e ed j} he h1 h2 =>
      (List.getElem?_eq_some_iff.1 (h.chain e ed j _ he h1 (List.getElem?_eq_getElem h2)).1).1
    rcases (hE _ _).1 he with ⟨hl, he⟩ | ⟨rfl, rfl⟩ <;> rcases (hE _ _).1 he' with ⟨hl', he'⟩ | ⟨rfl, rfl⟩
    · rw [if_neg (show ¬ e = E.length by omega), if_neg (show ¬ e' = E.length by omega)] at hst
      exact h.inj e ed j e' ed' j' he hj hj2 he' hj' hj2' hst
    · rw [if_neg (show ¬ e = E.length by omega), if_pos rfl] at hst
      have := hs he hj hj2
      omega
    · rw [if_pos rfl, if_neg (show ¬ e' = E.length by omega)] at hst
      have := hs he' hj' hj2'
      omega
    · rw [if_pos rfl, if_pos rfl] at hst
      exact ⟨rfl, by omega⟩
  · rw [leadBy_length _ _ _ _ (by omega)] at hk2
    by_cases q1 : k < n.length
    · obtain ⟨e, ed, j, he, h1, h2, h3⟩ := h.all k hk1 q1
      exact ⟨e, ed, j, (hE _ _).2 (.inl ⟨hlt he, he⟩), h1, h2, by rw [if_neg (show ¬ e = E.length by have := hlt he; omega)]; exact h3⟩
    · refine ⟨E.length, ⟨p, r :: rs, q⟩, k - n.length + 1, (hE _ _).2 (.inr ⟨rfl, rfl⟩), by omega, by simp at hk2 ⊢; omega, by rw [if_pos rfl]; omega⟩
  · rcases List.mem_append.1 hed with h1 | h1
    · exact h.src ed h1
    · rw [List.mem_singleton.1 h1]
      exact ⟨hp, hq, hr⟩
end Go.Proofs.Ytpoeklgoepjikaa.Sp

/-
  Which words lead where in loose states with rows; no program is named here.
-/
namespace Go.Proofs.Ytpoeklgoepjikaa.Sp
open Go.Lib
open Au (Arc Lo Star May has)

/-- A word leads from the start to a state. -/
inductive Path (n : List Lo) : List Nat → Nat → Prop
  | nil {k : Nat} : Star n 0 k → Path n [] k
  | snoc {w : List Nat} {k l c : Nat} {s : Lo} {a : Arc} : Path n w k → n[k]? = some s → a ∈ s.arcs → a.lo ≤ (c : Int) → (c : Int) ≤ a.hi → Star n a.to.toNat l → Path n (w ++ [c]) l
theorem star_lt {n : List Lo} (hM : May n) {i j : Nat} (h : Star n i j) (hi : i < n.length) : j < n.length := by
  induction h with
  | refl => exact hi
  | step _ h1 h2 _ =>
    obtain ⟨hl, rfl⟩ := List.getElem?_eq_some_iff.1 h1
    have := hM.free _ hl _ h2
    omega
theorem path_snoc {n : List Lo} {w : List Nat} {c l : Nat} : Path n (w ++ [c]) l ↔ ∃ k s a, Path n w k ∧ n[k]? = some s ∧ a ∈ s.arcs ∧ a.lo ≤ (c : Int) ∧ (c : Int) ≤ a.hi ∧ Star n a.to.toNat l := by
  constructor
  · intro h
    generalize hw : w ++ [c] = v at h
    cases h with
    | nil _ => simp at hw
    | snoc h1 h2 h3 h4 h5 h6 =>
      obtain ⟨rfl, e⟩ := List.append_inj' hw rfl
      obtain rfl := List.singleton_inj.1 e
      exact ⟨_, _, _, h1, h2, h3, h4, h5, h6⟩
  · rintro ⟨k, s, a, h1, h2, h3, h4, h5, h6⟩
    exact .snoc h1 h2 h3 h4 h5 h6
theorem path_nil {n : List Lo} {l : Nat} : Path n [] l ↔ Star n 0 l := by
  constructor
  · intro h
    generalize hw : ([] : List Nat) = v at h
    cases h with
    | nil h => exact h
    | snoc => simp at hw
  · exact .nil
/-- The states of a set are those that the word leads to. -/
theorem has_path {n : List Lo} (hM : May n) : ∀ (m : Nat) (w : List Nat), w.length = m → ∀ k, has (w.foldl (Au.over n) (Au.first n)) k ↔ Path n w k
  | 0, w, hw, k => by
    obtain rfl := List.length_eq_zero_iff.1 hw
    rw [path_nil, List.foldl_nil]
    unfold Au.first Au.spread
    rw [Au.has_setOf]
    constructor
    · rintro ⟨_, j, hj, hs⟩
      obtain ⟨_, rfl⟩ := (Au.has_setOf _ _ _).1 hj
      exact hs
    · intro hs
      exact ⟨star_lt hM hs hM.pos, 0, (Au.has_setOf _ _ _).2 ⟨hM.pos, rfl⟩, hs⟩
  | m + 1, w, hw, k => by
    obtain ⟨v, c, rfl⟩ : ∃ v c, w = v ++ [c] := ⟨w.dropLast, w.getLast (by intro e; rw [e] at hw; simp at hw), (List.dropLast_concat_getLast _).symm⟩
    have ih := has_path hM m v (by simpa using hw)
    rw [path_snoc, List.foldl_append]
    show has (Au.over n (v.foldl (Au.over n) (Au.first n)) c) k ↔ _
    unfold Au.over Au.spread
    rw [Au.has_setOf]
    constructor
    · rintro ⟨_, j, hj, hs⟩
      obtain ⟨_, k', s, a, h1, h2, h3, h4, h5, rfl⟩ := (Au.has_setOf _ _ _).1 hj
      exact ⟨k', s, a, (ih k').1 h1, h2, h3, h4, h5, hs⟩
    · rintro ⟨k', s, a, h1, h2, h3, h4, h5, h6⟩
      obtain ⟨hl, rfl⟩ := List.getElem?_eq_some_iff.1 h2
      have hto := hM.arc _ hl a h3
      have hlt : a.to.toNat < n.length := by omega
      exact ⟨star_lt hM h6 hlt, a.to.toNat, (Au.has_setOf _ _ _).2 ⟨hlt, k', n[k'], a, (ih k').2 h1, h2, h3, h4, h5, rfl⟩, h6⟩
/-- A row holds these bytes; begins with them. -/
def PreN (row : List (Int × Int)) (x : List Nat) : Prop := x.length ≤ row.length ∧ ∀ (i : Nat) (r : Int × Int) (c : Nat), row[i]? = some r → x[i]? = some c → r.1 ≤ (c : Int) ∧ (c : Int) ≤ r.2
def FitsN (row : List (Int × Int)) (x : List Nat) : Prop := x.length = row.length ∧ PreN row x
theorem preN_snoc {row : List (Int × Int)} {x : List Nat} {c : Nat} : PreN row (x ++ [c]) ↔ PreN row x ∧ ∃ r, row[x.length]? = some r ∧ r.1 ≤ (c : Int) ∧ (c : Int) ≤ r.2 := by
  unfold PreN
  constructor
  · rintro ⟨h1, h2⟩
    simp only [List.length_append, List.length_singleton] at h1
    refine ⟨⟨by omega, fun i r c' hr hc => h2 i r c' hr (by rw [List.getElem?_append_left (List.getElem?_eq_some_iff.1 hc).1]; exact hc)⟩, row[x.length]'(by omega), List.getElem?_eq_getElem _, h2 x.length _ c (List.getElem?_eq_getElem _) (by simp)⟩
  · rintro ⟨⟨h1, h2⟩, r, hr, h3, h4⟩
    have hl := (List.getElem?_eq_some_iff.1 hr).1
    refine ⟨by simp; omega, fun i r' c' hr' hc' => ?_⟩
    by_cases hi : i < x.length
    · rw [List.getElem?_append_left hi] at hc'
      exact h2 i r' c' hr' hc'
    · have hi2 : i < (x ++ [c]).length := (List.getElem?_eq_some_iff.1 hc').1
      obtain rfl : i = x.length := by simp at hi2; omega
      rw [hr] at hr'
      cases hr'
      simp at hc'
      subst hc'
      exact ⟨h3, h4⟩
def bs (n0 : List Lo) (p : Nat) : Lo := n0.getD p ⟨false, [], []⟩
theorem bs_at {n0 : List Lo} {p : Nat} (h : p < n0.length) : n0[p]? = some (bs n0 p) := by simp [bs, List.getD, h]
/-- A word leads to one of the first states, rows taken whole. -/
inductive MP (n0 : List Lo) (E : List Edge) : List Nat → Nat → Prop
  | nil {k : Nat} : Star n0 0 k → MP n0 E [] k
  | arc {w : List Nat} {k l c : Nat} {s : Lo} {a : Arc} : MP n0 E w k → n0[k]? = some s → a ∈ s.arcs → a.lo ≤ (c : Int) → (c : Int) ≤ a.hi → Star n0 a.to.toNat l → MP n0 E (w ++ [c]) l
  | edge {w x : List Nat} {l : Nat} {ed : Edge} : MP n0 E w ed.src → ed ∈ E → FitsN ed.row x → Star n0 ed.dst l → MP n0 E (w ++ x) l
section
variable {n0 n : List Lo} {E : List Edge} {st : Nat → Nat → Nat}
theorem MP.lt (hM : May n0) (hs : ∀ ed ∈ E, ed.dst < n0.length) {w : List Nat} {k : Nat} (h : MP n0 E w k) : k < n0.length := by
  cases h with
  | nil h => exact star_lt hM h hM.pos
  | arc _ h2 h3 _ _ h6 =>
    obtain ⟨hl, rfl⟩ := List.getElem?_eq_some_iff.1 h2
    have := hM.arc _ hl _ h3
    exact star_lt hM h6 (by omega)
  | edge _ h2 _ h4 => exact star_lt hM h4 (hs _ h2)
/-- What leads on by nothing is as it was. -/
theorem Led.star (h : Led n0.length (bs n0) E st n) (hM : May n0) {i k : Nat} (hi : i < n0.length) : Star n i k ↔ Star n0 i k := by
  constructor
  · intro hs
    have key : k < n0.length ∧ Star n0 i k := by
      induction hs with
      | refl => exact ⟨hi, .refl⟩
      | step _ h1 h2 ih =>
        obtain ⟨i1, i2⟩ := ih
        obtain ⟨A, h3, _⟩ := h.main _ i1
        rw [h1] at h3
        cases h3
        have hb := bs_at i1
        refine ⟨?_, .step i2 hb h2⟩
        obtain ⟨hl, e⟩ := List.getElem?_eq_some_iff.1 hb
        have := hM.free _ hl _ (by rw [e]; exact h2)
        omega
    exact key.2
  · intro hs
    have key : k < n0.length ∧ Star n i k := by
      induction hs with
      | refl => exact ⟨hi, .refl⟩
      | step _ h1 h2 ih =>
        obtain ⟨i1, i2⟩ := ih
        obtain ⟨A, h3, _⟩ := h.main _ i1
        rw [bs_at i1] at h1
        cases h1
        refine ⟨?_, .step i2 h3 h2⟩
        obtain ⟨hl, e⟩ := List.getElem?_eq_some_iff.1 (bs_at i1)
        have := hM.free _ hl _ (by rw [e]; exact h2)
        omega
    exact key.2
theorem Led.star_chain (h : Led n0.length (bs n0) E st n) {e j : Nat} {ed : Edge} (he : E[e]? = some ed) (h1 : 1 ≤ j) (h2 : j < ed.row.length) {k : Nat} (hs : Star n (st e j) k) : k = st e j := by
  induction hs with
  | refl => rfl
  | step _ h3 h4 ih =>
    subst ih
    rw [(h.chain e ed j _ he h1 (List.getElem?_eq_getElem h2)).1] at h3
    cases h3
    cases h4
/-- Where a word leads: to one of the first states, or into a row. -/
def InRow (n0 : List Lo) (E : List Edge) (st : Nat → Nat → Nat) (w : List Nat) (k : Nat) : Prop :=
  ∃ e ed u x, E[e]? = some ed ∧ 1 ≤ x.length ∧ x.length < ed.row.length ∧ k = st e x.length ∧ w = u ++ x ∧ PreN ed.row x ∧ MP n0 E u ed.src
theorem Led.path_of (h : Led n0.length (bs n0) E st n) (hM : May n0) {w : List Nat} {k : Nat} (hp : Path n w k) : (k < n0.length ∧ MP n0 E w k) ∨ InRow n0 E st w k := by
  -- behind the byte c, at the place t to which it leads
  have go : ∀ (e : Nat) (ed : Edge) (u x : List Nat) (l : Nat), E[e]? = some ed → MP n0 E u ed.src → PreN ed.row x → 1 ≤ x.length → Star n (nxt st e ed x.length) l → (l < n0.length ∧ MP n0 E (u ++ x) l) ∨ InRow n0 E st (u ++ x) l := by
    intro e ed u x l he hu hx h1 hs
    unfold nxt at hs
    by_cases q : x.length = ed.row.length
    · rw [if_pos q] at hs
      have hd := (h.src ed (List.mem_of_getElem? he)).2.1
      have hs0 := (h.star hM hd).1 hs
      exact .inl ⟨star_lt hM hs0 hd, .edge hu (List.mem_of_getElem? he) ⟨q, hx⟩ hs0⟩
    · rw [if_neg q] at hs
      have hlt : x.length < ed.row.length := by have := hx.1; omega
      exact .inr ⟨e, ed, u, x, he, h1, hlt, h.star_chain he h1 hlt hs, rfl, hx, hu⟩
  induction hp with
  | nil h0 =>
    have := (h.star hM hM.pos).1 h0
    exact .inl ⟨star_lt hM this hM.pos, .nil this⟩
  | @snoc w k l c s a hp h1 h2 h3 h4 h5 ih =>
    rcases ih with ⟨i1, i2⟩ | ⟨e, ed, u, x, he, hx1, hx2, rfl, rfl, hx3, hu⟩
    · obtain ⟨A, h6, h7⟩ := h.main _ i1
      rw [h1] at h6
      cases h6
      rcases List.mem_append.1 h2 with h2 | h2
      · have hb := bs_at i1
        obtain ⟨hl, e⟩ := List.getElem?_eq_some_iff.1 hb
        have hto := hM.arc _ hl _ (by rw [e]; exact h2)
        have hlt : a.to.toNat < n0.length := by omega
        have hs0 := (h.star hM hlt).1 h5
        exact .inl ⟨star_lt hM hs0 hlt, .arc i2 hb h2 h3 h4 hs0⟩
      · obtain ⟨e, ed, r, he, rfl, hr, rfl⟩ := (h7 _).1 h2
        refine go e ed _ [_] _ he i2 ?_ (by simp) (by simpa using h5)
        exact ⟨by have := (List.getElem?_eq_some_iff.1 hr).1; simp; omega, fun i r' c' hr' hc' => by
          have hi := (List.getElem?_eq_some_iff.1 hc').1
          obtain rfl : i = 0 := by simpa using hi
          rw [hr] at hr'
          cases hr'
          simp at hc'
          subst hc'
          exact ⟨h3, h4⟩⟩
    · have hc := (h.chain e ed x.length _ he hx1 (List.getElem?_eq_getElem hx2)).1
      rw [h1] at hc
      cases hc
      obtain rfl := List.mem_singleton.1 h2
      rw [List.append_assoc]
      refine go e ed u (x ++ [_]) _ he hu (preN_snoc.2 ⟨hx3, _, List.getElem?_eq_getElem hx2, h3, h4⟩) (by simp) (by simpa using h5)
theorem Led.chain_path (h : Led n0.length (bs n0) E st n) {e : Nat} {ed : Edge} (he : E[e]? = some ed) {u : List Nat} (hu : Path n u ed.src) : ∀ (m : Nat) (x : List Nat), x.length = m + 1 → PreN ed.row x → ∀ l, Star n (nxt st e ed x.length) l → Path n (u ++ x) l
  | 0, x, hx, hp, l, hs => by
    obtain ⟨c, rfl⟩ := List.length_eq_one_iff.1 hx
    obtain ⟨_, r, hr, h1, h2⟩ := preN_snoc (x := []).1 hp
    obtain ⟨A, h3, h4⟩ := h.main _ (h.src ed (List.mem_of_getElem? he)).1
    exact .snoc hu h3 (List.mem_append_right _ ((h4 _).2 ⟨e, ed, r, he, rfl, hr, rfl⟩)) h1 h2 (by simpa using hs)
  | m + 1, x, hx, hp, l, hs => by
    obtain ⟨v, c, rfl⟩ : ∃ v c, x = v ++ [c] := ⟨x.dropLast, x.getLast (by intro e; rw [e] at hx; simp at hx), (List.dropLast_concat_getLast _).symm⟩
    obtain ⟨hv, r, hr, h1, h2⟩ := preN_snoc.1 hp
    have hl : v.length = m + 1 := by simpa using hx
    have hlt := (List.getElem?_eq_some_iff.1 hr).1
    have hp1 := h.chain_path he hu m v hl hv (st e v.length) (by unfold nxt; rw [if_neg (by omega)]; exact .refl)
    rw [← List.append_assoc]
    exact .snoc hp1 (h.chain e ed v.length r he (by omega) hr).1 (List.mem_singleton.2 rfl) h1 h2 (by simpa using hs)
theorem Led.of_mp (h : Led n0.length (bs n0) E st n) (hM : May n0) {w : List Nat} {k : Nat} (hp : MP n0 E w k) : Path n w k := by
  induction hp with
  | nil h0 => exact .nil ((h.star hM hM.pos).2 h0)
  | arc _ h2 h3 h4 h5 h6 ih =>
    obtain ⟨hl, e⟩ := List.getElem?_eq_some_iff.1 h2
    obtain ⟨A, h7, _⟩ := h.main _ hl
    have hto := hM.arc _ hl _ (by rw [e]; exact h3)
    have hb := bs_at hl
    rw [h2] at hb
    cases hb
    exact .snoc ih h7 (List.mem_append_left _ h3) h4 h5 ((h.star hM (by omega)).2 h6)
  | edge _ h2 h3 h4 ih =>
    obtain ⟨e, he⟩ := List.mem_iff_getElem?.1 h2
    have hsrc := h.src _ h2
    obtain ⟨m, hm⟩ : ∃ m, _ = m + 1 := ⟨_, (Nat.succ_pred_eq_of_pos (show 0 < List.length _ by rw [h3.1]; exact hsrc.2.2)).symm⟩
    refine h.chain_path he ih m _ hm h3.2 _ ?_
    unfold nxt
    rw [if_pos h3.1]
    exact (h.star hM hsrc.2.1).2 h4
/-- Where each word leads. -/
theorem Led.path_iff (h : Led n0.length (bs n0) E st n) (hM : May n0) {w : List Nat} {k : Nat} : Path n w k ↔ MP n0 E w k ∨ InRow n0 E st w k := by
  constructor
  · intro hp
    rcases h.path_of hM hp with ⟨_, h1⟩ | h1
    · exact .inl h1
    · exact .inr h1
  · rintro (h1 | ⟨e, ed, u, x, he, hx1, hx2, rfl, rfl, hx3, hu⟩)
    · exact h.of_mp hM h1
    · obtain ⟨m, hm⟩ : ∃ m, x.length = m + 1 := ⟨x.length - 1, by omega⟩
      refine h.chain_path he (h.of_mp hM hu) m x hm hx3 _ ?_
      unfold nxt
      rw [if_neg (by omega)]
      exact .refl
/-- The states with the rows may be, too. -/
theorem Led.may (h : Led n0.length (bs n0) E st n) (hM : May n0) (hr : ∀ ed ∈ E, ∀ r ∈ ed.row, 0 ≤ r.1 ∧ r.1 ≤ r.2 ∧ r.2 ≤ 255) : May n := by
  have hsz := h.size
  have hst : ∀ {e ed j}, E[e]? = some ed → 1 ≤ j → j ≤ ed.row.length → nxt st e ed j < n.length := fun {e ed j} he h1 h2 => by
    unfold nxt
    by_cases q : j = ed.row.length
    · rw [if_pos q]; have := (h.src ed (List.mem_of_getElem? he)).2.1; omega
    · rw [if_neg q]
      exact (List.getElem?_eq_some_iff.1 (h.chain e ed j _ he h1 (List.getElem?_eq_getElem (by omega))).1).1
  refine ⟨Nat.lt_of_lt_of_le hM.pos hsz, fun i hi a ha => ?_, fun i hi f hf => ?_⟩
  · by_cases q : i < n0.length
    · obtain ⟨A, h1, h2⟩ := h.main i q
      have e1 : n[i] = ⟨(bs n0 i).fin, (bs n0 i).arcs ++ A, (bs n0 i).free⟩ := (List.getElem?_eq_some_iff.1 h1).2
      rw [e1] at ha
      rcases List.mem_append.1 ha with ha | ha
      · obtain ⟨hl, e⟩ := List.getElem?_eq_some_iff.1 (bs_at q)
        have := hM.arc i q a (by rw [e]; exact ha)
        omega
      · obtain ⟨e, ed, r, he, _, hr0, rfl⟩ := (h2 a).1 ha
        have hm := List.mem_of_getElem? he
        have := hr ed hm r (List.mem_of_getElem? hr0)
        have := hst he (Nat.le_refl 1) (h.src ed hm).2.2
        dsimp only
        omega
    · obtain ⟨e, ed, j, he, h1, h2, rfl⟩ := h.all i (by omega) hi
      have hc := (h.chain e ed j _ he h1 (List.getElem?_eq_getElem h2)).1
      have e1 := (List.getElem?_eq_some_iff.1 hc).2
      rw [e1] at ha
      obtain rfl := List.mem_singleton.1 ha
      have := hr ed (List.mem_of_getElem? he) _ (List.getElem_mem h2)
      have := hst he (show 1 ≤ j + 1 by omega) h2
      dsimp only
      omega
  · by_cases q : i < n0.length
    · obtain ⟨A, h1, h2⟩ := h.main i q
      have e1 : n[i] = ⟨(bs n0 i).fin, (bs n0 i).arcs ++ A, (bs n0 i).free⟩ := (List.getElem?_eq_some_iff.1 h1).2
      rw [e1] at hf
      obtain ⟨hl, e⟩ := List.getElem?_eq_some_iff.1 (bs_at q)
      have := hM.free i q f (by rw [e]; exact hf)
      omega
    · obtain ⟨e, ed, j, he, h1, h2, rfl⟩ := h.all i (by omega) hi
      have hc := (h.chain e ed j _ he h1 (List.getElem?_eq_getElem h2)).1
      have e1 := (List.getElem?_eq_some_iff.1 hc).2
      rw [e1] at hf
      cases hf
end
end Go.Proofs.Ytpoeklgoepjikaa.Sp

/-
  What the rows of a range are byte by byte; what loose states take in which the characters of a range lead on; how few sets are met; no program is named here.
-/
namespace Go.Proofs.Ytpoeklgoepjikaa.Sp
open Go.Lib
open Au (Arc Lo Star May has)

/-- Of how many bytes a text is that begins with this one; 0: none begins so. -/
def cls (b : Nat) : Nat := if b ≤ 127 then 1 else if b ≤ 191 then 0 else if b ≤ 223 then 2 else if b ≤ 239 then 3 else if b ≤ 247 then 4 else 0
/-- A byte behind the first one. -/
def Cont (b : Nat) : Prop := 128 ≤ b ∧ b ≤ 191
/-- How the ranges of a row lie. -/
structure Shape (row : List (Int × Int)) : Prop where
  pos : 0 < row.length
  len : row.length ≤ 4
  rng : ∀ r ∈ row, 0 ≤ r.1 ∧ r.1 ≤ r.2 ∧ r.2 ≤ 255
  head : ∀ r, row[0]? = some r → ∀ b : Nat, r.1 ≤ (b : Int) → (b : Int) ≤ r.2 → cls b = row.length
  tail : ∀ i r, row[i + 1]? = some r → 128 ≤ r.1 ∧ r.2 ≤ 191
theorem shape_good {f l : Int} {tails t : Nat} {a b : Int} (hk : InCut f l tails) (h : Good f l tails t a b) : Shape (rowOf (a, b)) ∧ (rowOf (a, b)).length = tails + 1 := by
  have hrow := row_good hk h
  have h1 := h.lo
  have h2 := h.hi
  have h3 := h.le
  have hlen := hrow.len
  refine ⟨⟨by omega, by have := (cut_small hk).1; omega, hrow.rng, ?_, ?_⟩, hlen⟩
  · intro r hr c hc1 hc2
    rw [hlen]
    unfold rowOf at hr
    unfold cls
    cases hk
    · rw [encodeRuneZ_one (by omega) (by omega), encodeRuneZ_one (by omega) (by omega)] at hr
      simp at hr
      subst hr
      dsimp only at hc1 hc2
      rw [if_pos (by omega)]
    · rw [encodeRuneZ_two (by omega) (by omega), encodeRuneZ_two (by omega) (by omega)] at hr
      simp at hr
      subst hr
      dsimp only at hc1 hc2
      rw [if_neg (by omega), if_neg (by omega), if_pos (by omega)]
    · rw [encodeRuneZ_three (by omega), encodeRuneZ_three (by omega)] at hr
      simp at hr
      subst hr
      dsimp only at hc1 hc2
      rw [if_neg (by omega), if_neg (by omega), if_neg (by omega), if_pos (by omega)]
    · rw [encodeRuneZ_three (by omega), encodeRuneZ_three (by omega)] at hr
      simp at hr
      subst hr
      dsimp only at hc1 hc2
      rw [if_neg (by omega), if_neg (by omega), if_neg (by omega), if_pos (by omega)]
    · rw [encodeRuneZ_four (by omega) (by omega), encodeRuneZ_four (by omega) (by omega)] at hr
      simp at hr
      subst hr
      dsimp only at hc1 hc2
      rw [if_neg (by omega), if_neg (by omega), if_neg (by omega), if_neg (by omega), if_pos (by omega)]
  · intro i r hr
    have hi : i + 1 < tails + 1 := by rw [← hlen]; exact (List.getElem?_eq_some_iff.1 hr).1
    unfold rowOf at hr
    cases hk
    · omega
    · rw [encodeRuneZ_two (by omega) (by omega), encodeRuneZ_two (by omega) (by omega)] at hr
      obtain rfl : i = 0 := by omega
      simp at hr
      subst hr
      dsimp only
      omega
    · rw [encodeRuneZ_three (by omega), encodeRuneZ_three (by omega)] at hr
      have hi2 : i = 0 ∨ i = 1 := by omega
      rcases hi2 with rfl | rfl <;> (simp at hr; subst hr; dsimp only; omega)
    · rw [encodeRuneZ_three (by omega), encodeRuneZ_three (by omega)] at hr
      have hi2 : i = 0 ∨ i = 1 := by omega
      rcases hi2 with rfl | rfl <;> (simp at hr; subst hr; dsimp only; omega)
    · rw [encodeRuneZ_four (by omega) (by omega), encodeRuneZ_four (by omega) (by omega)] at hr
      have hi2 : i = 0 ∨ i = 1 ∨ i = 2 := by omega
      rcases hi2 with rfl | rfl | rfl <;> (simp at hr; subst hr; dsimp only; omega)
theorem rows_shape {lo hi : Int} {row : List (Int × Int)} (h : row ∈ rows lo hi) : Shape row := by
  obtain ⟨p, hp, rfl⟩ := List.mem_map.1 h
  obtain ⟨f, l, tails, t, hc, hg, _⟩ := pairs_all lo hi p hp
  exact (shape_good hc hg).1
/-- How many rows there are of so many bytes. -/
theorem rows_class (lo hi : Int) : ((rows lo hi).filter fun r => decide (r.length = 2)).length ≤ 3 ∧ ((rows lo hi).filter fun r => decide (r.length = 3)).length ≤ 10 ∧ ((rows lo hi).filter fun r => decide (r.length = 4)).length ≤ 7 := by
  have seg : ∀ (f l : Int) (tl : Nat), InCut f l tl → ∀ L, (((segs (max lo f) (min hi l) tl).map rowOf).filter fun r => decide (r.length = L)).length ≤ 2 * tl + 1 ∧ (L ≠ tl + 1 → (((segs (max lo f) (min hi l) tl).map rowOf).filter fun r => decide (r.length = L)).length = 0) := by
    intro f l tl hc L
    have hs := cut_small hc
    have hall : ∀ r ∈ (segs (max lo f) (min hi l) tl).map rowOf, r.length = tl + 1 := fun r hr => by
      obtain ⟨p, hp, rfl⟩ := List.mem_map.1 hr
      obtain ⟨_, _, t, hg⟩ := segs_all f l tl hs.1 hs.2 (min hi l) (by omega) _ (max lo f) (by omega) rfl p hp
      exact (shape_good hc hg).2
    refine ⟨?_, fun e => ?_⟩
    · refine Nat.le_trans (List.length_filter_le _ _) ?_
      rw [List.length_map]
      exact segs_few _ _ _ hs.1 (by omega)
    · have : ((segs (max lo f) (min hi l) tl).map rowOf).filter (fun r => decide (r.length = L)) = [] := by
        rw [List.filter_eq_nil_iff]
        intro r hr
        have := hall r hr
        simp
        omega
      rw [this]
      rfl
  have a0 := seg 0 127 0 .c0
  have a1 := seg 128 2047 1 .c1
  have a2 := seg 2048 55295 2 .c2
  have a3 := seg 57344 65535 2 .c3
  have a4 := seg 65536 1114111 3 .c4
  have key : ∀ L, ((rows lo hi).filter fun r => decide (r.length = L)).length = (((segs (max lo 0) (min hi 127) 0).map rowOf).filter fun r => decide (r.length = L)).length + ((((segs (max lo 128) (min hi 2047) 1).map rowOf).filter fun r => decide (r.length = L)).length + ((((segs (max lo 2048) (min hi 55295) 2).map rowOf).filter fun r => decide (r.length = L)).length + ((((segs (max lo 57344) (min hi 65535) 2).map rowOf).filter fun r => decide (r.length = L)).length + (((segs (max lo 65536) (min hi 1114111) 3).map rowOf).filter fun r => decide (r.length = L)).length))) := fun L => by
    unfold rows pairs
    simp only [cuts, List.flatMap_cons, List.flatMap_nil, List.append_nil, List.map_append, List.filter_append, List.length_append]
  refine ⟨?_, ?_, ?_⟩
  · rw [key]
    have b0 := (a0 2).2 (by omega); have b1 := (a1 2).1; have b2 := (a2 2).2 (by omega); have b3 := (a3 2).2 (by omega); have b4 := (a4 2).2 (by omega)
    omega
  · rw [key]
    have b0 := (a0 3).2 (by omega); have b1 := (a1 3).2 (by omega); have b2 := (a2 3).1; have b3 := (a3 3).1; have b4 := (a4 3).2 (by omega)
    omega
  · rw [key]
    have b0 := (a0 4).2 (by omega); have b1 := (a1 4).2 (by omega); have b2 := (a2 4).2 (by omega); have b3 := (a3 4).2 (by omega); have b4 := (a4 4).1
    omega
/-- The bytes of a row's beginning: the first one, and such as stand behind. -/
def Part (x : List Nat) : Prop := ∃ b t, x = b :: t ∧ ¬ Cont b ∧ ∀ c ∈ t, Cont c
theorem preN_part {row : List (Int × Int)} (hs : Shape row) {x : List Nat} (h : PreN row x) (h1 : 1 ≤ x.length) : Part x ∧ ∃ b t, x = b :: t ∧ cls b = row.length := by
  obtain ⟨hl, hp⟩ := h
  cases x with
  | nil => simp at h1
  | cons b t =>
    have h0 : 0 < row.length := hs.pos
    obtain ⟨p1, p2⟩ := hp 0 row[0] b (List.getElem?_eq_getElem h0) rfl
    have hc := hs.head row[0] (List.getElem?_eq_getElem h0) b p1 p2
    refine ⟨⟨b, t, rfl, fun hcb => ?_, fun c hct => ?_⟩, b, t, rfl, hc⟩
    · have : cls b = 0 := by
        unfold cls
        rw [if_neg (by have := hcb.1; omega), if_pos hcb.2]
      omega
    · obtain ⟨i, hi, rfl⟩ := List.mem_iff_getElem.1 hct
      have hi2 : i + 1 < row.length := by simp at hl; omega
      obtain ⟨q1, q2⟩ := hp (i + 1) row[i + 1] t[i] (List.getElem?_eq_getElem hi2) (by simp)
      obtain ⟨q3, q4⟩ := hs.tail i row[i + 1] (List.getElem?_eq_getElem hi2)
      exact ⟨by omega, by omega⟩
/-- A word ends with one such beginning at most. -/
theorem part_one {u u' x x' : List Nat} (h : Part x) (h' : Part x') (e : u ++ x = u' ++ x') : u = u' ∧ x = x' := by
  have key : ∀ (u u' x x' : List Nat), Part x → Part x' → u ++ x = u' ++ x' → ¬ x.length < x'.length := by
    intro u u' x x' ⟨b, t, hx, hb, _⟩ ⟨b', t', hx', _, ht'⟩ e hlt
    have hl : u.length + x.length = u'.length + x'.length := by have := congrArg List.length e; simpa using this
    have hget : (u' ++ x')[u.length]? = some b := by
      rw [← e, List.getElem?_append_right (Nat.le_refl _), Nat.sub_self, hx]
      rfl
    rw [List.getElem?_append_right (by omega), hx', show u.length - u'.length = (u.length - u'.length - 1) + 1 by omega, List.getElem?_cons_succ] at hget
    exact hb (ht' b (List.mem_of_getElem? hget))
  have h1 := key u u' x x' h h' e
  have h2 := key u' u x' x h' h e.symm
  exact List.append_inj' e (by omega)
end Go.Proofs.Ytpoeklgoepjikaa.Sp

/-
  Loose states in which the characters of a range lead from the first to the second: what they take, and that few sets are met; no program is named here.
-/
namespace Go.Proofs.Ytpoeklgoepjikaa.Sp
open Go.Lib
open Au (Arc Lo Star May has)

/-- What may be takes: where a word leads to a final state. -/
theorem takes_path {n : List Lo} (hM : May n) (w : List Nat) : Au.takes n (Au.first n) w = true ↔ ∃ k s, Path n w k ∧ n[k]? = some s ∧ s.fin = true := by
  unfold Au.takes
  rw [Au.ends_iff]
  constructor
  · rintro ⟨k, s, h1, h2, h3⟩
    exact ⟨k, s, (has_path hM _ w rfl k).1 h1, h2, h3⟩
  · rintro ⟨k, s, h1, h2, h3⟩
    exact ⟨k, s, (has_path hM _ w rfl k).2 h1, h2, h3⟩
/-- The sets that are met are those that words lead to. -/
theorem path_sets {n : List Lo} (hM : May n) (w : List Nat) : w.foldl (Au.over n) (Au.first n) = Au.setOf n.length (Path n w) := by
  have hl : (w.foldl (Au.over n) (Au.first n)).length = n.length := by
    rcases List.eq_nil_or_concat w with rfl | ⟨v, c, rfl⟩
    · exact Au.first_length n
    · rw [List.concat_eq_append, List.foldl_append]
      exact Au.over_length n _ c
  refine Au.set_ext (by rw [hl, Au.setOf_length]) fun i => ?_
  rw [has_path hM _ w rfl, Au.has_setOf]
  constructor
  · intro h
    have h2 := (has_path hM _ w rfl i).2 h
    exact ⟨by rw [← hl]; exact (List.getElem?_eq_some_iff.1 h2).1, h⟩
  · exact fun h => h.2
/-- As many sets as codes at most, where words of one code lead to the same states. -/
theorem few_of_code {n : List Lo} (hM : May n) (N : Nat) (code : List Nat → Nat) (hc : ∀ w, code w < N) (hi : ∀ w w', code w = code w' → ∀ k, Path n w k ↔ Path n w' k) (most : Int) (hN : (N : Int) ≤ most) : ∃ i, Au.Few n most i := by
  classical
  let P : List Bool → Prop := fun S => ∃ w, S = Au.setOf n.length (Path n w)
  let f : List Bool → Nat := fun S => if h : P S then code (Classical.choose h) else 0
  have hb : ∀ i, ((Au.sub n).plain.met (Au.first n) i).length ≤ N := fun i => by
    refine Au.met_few (Au.sub n).plain (fun s => decide_eq_true rfl) f N P (fun S c T hS hg => ?_) (Au.first n) ⟨[], (path_sets hM [])⟩ (fun S hS => ?_) (fun S T hS hT e => ?_) i
    · obtain ⟨w, rfl⟩ := hS
      change (if _ then _ else _) = _ at hg
      split at hg
      · cases hg
      · cases hg
        refine ⟨w ++ [c], ?_⟩
        rw [← path_sets hM, ← path_sets hM, List.foldl_append]
        rfl
    · show (if h : P S then _ else _) < N
      rw [dif_pos hS]
      exact hc _
    · change (if h : P S then _ else _) = (if h : P T then _ else _) at e
      rw [dif_pos hS, dif_pos hT] at e
      have hp := hi _ _ e
      have e1 := Classical.choose_spec hS
      have e2 := Classical.choose_spec hT
      rw [e1, e2]
      refine Au.set_ext (by rw [Au.setOf_length, Au.setOf_length]) fun k => ?_
      rw [Au.has_setOf, Au.has_setOf, hp k]
  exact ⟨N, hb N, by have := hb N; omega⟩
open Classical in
/-- Which of some rows begin with these bytes, as a number. -/
noncomputable def bits (rs : List (List (Int × Int))) (x : List Nat) : Nat := rs.foldr (fun r acc => acc * 2 + if PreN r x then 1 else 0) 0
theorem bits_lt (rs : List (List (Int × Int))) (x : List Nat) : bits rs x < 2 ^ rs.length := by
  induction rs with
  | nil => simp [bits]
  | cons r t ih =>
    show bits t x * 2 + _ < _
    rw [List.length_cons, Nat.pow_succ]
    split <;> omega
open Classical in
theorem bits_inj (rs : List (List (Int × Int))) (x y : List Nat) (h : bits rs x = bits rs y) : ∀ r ∈ rs, PreN r x ↔ PreN r y := by
  induction rs with
  | nil => intro r hr; cases hr
  | cons r t ih =>
    have h' : bits t x * 2 + (if PreN r x then 1 else 0) = bits t y * 2 + (if PreN r y then 1 else 0) := h
    have h1 : bits t x = bits t y := by split at h' <;> split at h' <;> omega
    have h2 : PreN r x ↔ PreN r y := by
      rw [h1] at h'
      by_cases q : PreN r x <;> by_cases q2 : PreN r y <;> simp [q, q2] at h' ⊢
    intro r' hr'
    rcases List.mem_cons.1 hr' with rfl | hr'
    · exact h2
    · exact ih h1 r' hr'
section
variable {n0 n : List Lo} {E : List Edge} {st : Nat → Nat → Nat} {R : List (List (Int × Int))}
/-- Into which row a word leads hangs on how it ends alone. -/
theorem inRow_iff (hE : ∀ ed ∈ E, Shape ed.row) {w : List Nat} {k : Nat} : InRow n0 E st w k ↔ ∃ u x, Part x ∧ w = u ++ x ∧ ∃ e ed, E[e]? = some ed ∧ x.length < ed.row.length ∧ k = st e x.length ∧ PreN ed.row x ∧ MP n0 E u ed.src := by
  constructor
  · rintro ⟨e, ed, u, x, he, h1, h2, rfl, rfl, h3, h4⟩
    exact ⟨u, x, (preN_part (hE _ (List.mem_of_getElem? he)) h3 h1).1, rfl, e, ed, he, h2, rfl, h3, h4⟩
  · rintro ⟨u, x, ⟨b, t, hx, _⟩, rfl, e, ed, he, h2, rfl, h3, h4⟩
    exact ⟨e, ed, u, x, he, by rw [hx]; simp, h2, rfl, rfl, h3, h4⟩
end
/-- Rows between two of the first states. -/
theorem lead_led {n0 : List Lo} {p q : Nat} (hp : p < n0.length) (hq : q < n0.length) : ∀ (m : Nat) (R : List (List (Int × Int))), R.length = m → (∀ row ∈ R, 0 < row.length) → ∃ st, Led n0.length (bs n0) (R.map fun row => ⟨p, row, q⟩) st (lead n0 p q R)
  | 0, R, hR, _ => by
    obtain rfl := List.length_eq_zero_iff.1 hR
    exact ⟨fun _ _ => 0, Led.nil n0 (bs n0) (fun _ h => bs_at h) _⟩
  | m + 1, R, hR, hr => by
    obtain ⟨T, row, rfl⟩ : ∃ T row, R = T ++ [row] := ⟨R.dropLast, R.getLast (by intro e; rw [e] at hR; simp at hR), (List.dropLast_concat_getLast _).symm⟩
    obtain ⟨st, h⟩ := lead_led hp hq m T (by simpa using hR) fun r h => hr r (List.mem_append_left _ h)
    have := h.snoc p q row hp hq (hr row (by simp))
    rw [← lead_snoc] at this
    rw [List.map_append]
    exact ⟨_, this⟩
theorem star_stop {n0 : List Lo} {i k : Nat} (h : ∀ s, n0[i]? = some s → s.free = []) (hs : Star n0 i k) : k = i := by
  induction hs with
  | refl => rfl
  | step _ h1 h2 ih =>
    subst ih
    rw [h _ h1] at h2
    cases h2
theorem mp_mono {n0 : List Lo} {E F : List Edge} (hE : ∀ ed ∈ E, ed ∈ F) {w : List Nat} {k : Nat} (h : MP n0 E w k) : MP n0 F w k := by
  induction h with
  | nil h => exact .nil h
  | arc _ h2 h3 h4 h5 h6 ih => exact .arc ih h2 h3 h4 h5 h6
  | edge _ h2 h3 h4 ih => exact .edge ih (hE _ h2) h3 h4
section
variable {old : Lo} {R : List (List (Int × Int))}
/-- The two states that are led between: one that was there, and an end. -/
def two (old : Lo) : List Lo := [old, ⟨true, [], []⟩]
def edges (R : List (List (Int × Int))) : List Edge := R.map fun row => ⟨0, row, 1⟩
theorem mp_two {w : List Nat} {k : Nat} : MP (two old) (edges R) w k ↔ MP (two old) [] w k ∨ (k = 1 ∧ ∃ u x row, row ∈ R ∧ w = u ++ x ∧ FitsN row x ∧ MP (two old) [] u 0) := by
  constructor
  · intro h
    induction h with
    | nil h => exact .inl (.nil h)
    | arc _ h2 h3 h4 h5 h6 ih =>
      rcases ih with ih | ⟨rfl, _⟩
      · exact .inl (.arc ih h2 h3 h4 h5 h6)
      · cases h2
        cases h3
    | edge _ h2 h3 h4 ih =>
      obtain ⟨row, hrow, rfl⟩ := List.mem_map.1 h2
      rcases ih with ih | ⟨h, _⟩
      · exact .inr ⟨star_stop (fun s hs => by cases hs; rfl) h4, _, _, row, hrow, rfl, h3, ih⟩
      · cases h
  · rintro (h | ⟨rfl, u, x, row, hrow, rfl, hf, hu⟩)
    · exact mp_mono (fun _ h => by cases h) h
    · exact .edge (ed := ⟨0, row, 1⟩) (mp_mono (fun _ h => by cases h) hu) (List.mem_map.2 ⟨row, hrow, rfl⟩) hf .refl
/-- How a word ends within a character of more bytes, behind a word that leads to the first state. -/
def Ends (old : Lo) (R : List (List (Int × Int))) (w x : List Nat) : Prop := Part x ∧ x.length < cls (x.headD 0) ∧ ∃ u, w = u ++ x ∧ MP (two old) (edges R) u 0
theorem Ends.one {w x x' : List Nat} (h : Ends old R w x) (h' : Ends old R w x') : x = x' := by
  obtain ⟨h1, _, u, e, _⟩ := h
  obtain ⟨h2, _, u', e', _⟩ := h'
  exact (part_one h1 h2 (e.symm.trans e')).2
def off (L j : Nat) : Nat := if L = 2 then 0 else if L = 3 then 8 + (j - 1) * 1024 else 2056 + (j - 1) * 128
noncomputable def codeX (R : List (List (Int × Int))) (x : List Nat) : Nat := 1 + off (cls (x.headD 0)) x.length + bits (R.filter fun r => decide (r.length = cls (x.headD 0))) x
open Classical in
noncomputable def code (old : Lo) (R : List (List (Int × Int))) (w : List Nat) : Nat :=
  (if MP (two old) (edges R) w 0 then 1 else 0) + 2 * (if MP (two old) (edges R) w 1 then 1 else 0) + 4 * (if h : ∃ x, Ends old R w x then codeX R (Classical.choose h) else 0)
/-- Few rows of each length. -/
structure FewRows (R : List (List (Int × Int))) : Prop where
  shape : ∀ row ∈ R, Shape row
  r2 : (R.filter fun r => decide (r.length = 2)).length ≤ 3
  r3 : (R.filter fun r => decide (r.length = 3)).length ≤ 10
  r4 : (R.filter fun r => decide (r.length = 4)).length ≤ 7
theorem ends_cls {w x : List Nat} (h : Ends old R w x) : 1 ≤ x.length ∧ x.length < cls (x.headD 0) ∧ cls (x.headD 0) ≤ 4 := by
  obtain ⟨⟨b, t, rfl, _⟩, h2, _⟩ := h
  refine ⟨by simp, h2, ?_⟩
  unfold cls
  repeat' split
  all_goals omega
theorem codeX_lt (hR : FewRows R) {w x : List Nat} (h : Ends old R w x) : 1 ≤ codeX R x ∧ codeX R x ≤ 2440 ∧
    (cls (x.headD 0) = 2 → codeX R x ≤ 8) ∧ (cls (x.headD 0) = 3 → 8 + (x.length - 1) * 1024 < codeX R x ∧ codeX R x ≤ 8 + x.length * 1024) ∧ (cls (x.headD 0) = 4 → 2056 + (x.length - 1) * 128 < codeX R x ∧ codeX R x ≤ 2056 + x.length * 128) := by
  obtain ⟨h1, h2, h3⟩ := ends_cls h
  have hb := bits_lt (R.filter fun r => decide (r.length = cls (x.headD 0))) x
  unfold codeX off
  have hc : cls (x.headD 0) = 2 ∨ cls (x.headD 0) = 3 ∨ cls (x.headD 0) = 4 := by omega
  rcases hc with hc | hc | hc
  · rw [hc] at hb h2 ⊢
    have : 2 ^ (R.filter fun r => decide (r.length = 2)).length ≤ 2 ^ 3 := Nat.pow_le_pow_right (by omega) hR.r2
    simp only [if_true]
    omega
  · rw [hc] at hb h2 ⊢
    have : 2 ^ (R.filter fun r => decide (r.length = 3)).length ≤ 2 ^ 10 := Nat.pow_le_pow_right (by omega) hR.r3
    rw [if_neg (by omega), if_pos rfl]
    omega
  · rw [hc] at hb h2 ⊢
    have : 2 ^ (R.filter fun r => decide (r.length = 4)).length ≤ 2 ^ 7 := Nat.pow_le_pow_right (by omega) hR.r4
    rw [if_neg (by omega), if_neg (by omega)]
    omega
theorem codeX_inj (hR : FewRows R) {w x w' x' : List Nat} (h : Ends old R w x) (h' : Ends old R w' x') (e : codeX R x = codeX R x') : cls (x.headD 0) = cls (x'.headD 0) ∧ x.length = x'.length ∧ ∀ r ∈ R, r.length = cls (x.headD 0) → (PreN r x ↔ PreN r x') := by
  obtain ⟨a1, a2, a3⟩ := ends_cls h
  obtain ⟨b1, b2, b3⟩ := ends_cls h'
  obtain ⟨c1, c2, c3, c4, c5⟩ := codeX_lt hR h
  obtain ⟨d1, d2, d3, d4, d5⟩ := codeX_lt hR h'
  have hL : cls (x.headD 0) = cls (x'.headD 0) := by omega
  have hj : x.length = x'.length := by omega
  refine ⟨hL, hj, fun r hr hl => ?_⟩
  unfold codeX at e
  rw [hL, hj] at e
  refine bits_inj (R.filter fun r => decide (r.length = cls (x'.headD 0))) x x' (by omega) r ?_
  rw [List.mem_filter]
  exact ⟨hr, decide_eq_true (by rw [hl, hL])⟩
theorem code_lt (hR : FewRows R) (w : List Nat) : code old R w < 9764 := by
  classical
  have h : ∀ (p : Prop) [Decidable p], (if p then 1 else 0) ≤ 1 := fun p _ => by split <;> omega
  have h0 := h (MP (two old) (edges R) w 0)
  have h1 := h (MP (two old) (edges R) w 1)
  by_cases hx : ∃ x, Ends old R w x
  · have h2 := (codeX_lt hR (Classical.choose_spec hx)).2.1
    have e : code old R w = (if MP (two old) (edges R) w 0 then 1 else 0) + 2 * (if MP (two old) (edges R) w 1 then 1 else 0) + 4 * codeX R (Classical.choose hx) := by
      unfold code
      rw [dif_pos hx]
    omega
  · have e : code old R w = (if MP (two old) (edges R) w 0 then 1 else 0) + 2 * (if MP (two old) (edges R) w 1 then 1 else 0) + 4 * 0 := by
      unfold code
      rw [dif_neg hx]
    omega
theorem inRow_ends (hR : FewRows R) {st : Nat → Nat → Nat} {w : List Nat} {k : Nat} : InRow (two old) (edges R) st w k ↔ ∃ x, Ends old R w x ∧ ∃ e row, R[e]? = some row ∧ row.length = cls (x.headD 0) ∧ k = st e x.length ∧ PreN row x := by
  have hE : ∀ e ed, (edges R)[e]? = some ed ↔ ∃ row : List (Int × Int), R[e]? = some row ∧ ed = (⟨0, row, 1⟩ : Edge) := fun e ed => by
    unfold edges
    rw [List.getElem?_map, Option.map_eq_some_iff]
    exact ⟨fun ⟨r, h1, h2⟩ => ⟨r, h1, h2.symm⟩, fun ⟨r, h1, h2⟩ => ⟨r, h1, h2.symm⟩⟩
  constructor
  · rintro ⟨e, ed, u, x, he, h1, h2, rfl, rfl, h3, h4⟩
    obtain ⟨row, hrow, rfl⟩ := (hE e ed).1 he
    obtain ⟨p1, b, t, rfl, p2⟩ := preN_part (hR.shape row (List.mem_of_getElem? hrow)) h3 h1
    exact ⟨b :: t, ⟨p1, by show _ < cls b; rw [p2]; exact h2, u, rfl, h4⟩, e, row, hrow, p2.symm, rfl, h3⟩
  · rintro ⟨x, ⟨p1, p2, u, rfl, h4⟩, e, row, hrow, hl, rfl, h3⟩
    obtain ⟨b, t, hx, _⟩ := id p1
    exact ⟨e, ⟨0, row, 1⟩, u, x, (hE e _).2 ⟨row, hrow, rfl⟩, by rw [hx]; simp, by show _ < row.length; omega, rfl, rfl, h3, h4⟩
theorem code_inj (hR : FewRows R) {st : Nat → Nat → Nat} {w w' : List Nat} (e : code old R w = code old R w') :
    (∀ k, k < 2 → (MP (two old) (edges R) w k ↔ MP (two old) (edges R) w' k)) ∧ ∀ k, InRow (two old) (edges R) st w k ↔ InRow (two old) (edges R) st w' k := by
  classical
  have one : ∀ v : List Nat, ∃ c, code old R v = (if MP (two old) (edges R) v 0 then 1 else 0) + 2 * (if MP (two old) (edges R) v 1 then 1 else 0) + 4 * c ∧ ((c = 0 ∧ ∀ x, ¬ Ends old R v x) ∨ (∃ x, Ends old R v x ∧ c = codeX R x)) := fun v => by
    by_cases h : ∃ x, Ends old R v x
    · refine ⟨codeX R (Classical.choose h), ?_, .inr ⟨_, Classical.choose_spec h, rfl⟩⟩
      unfold code
      rw [dif_pos h]
    · refine ⟨0, ?_, .inl ⟨rfl, fun x hx => h ⟨x, hx⟩⟩⟩
      unfold code
      rw [dif_neg h]
  obtain ⟨c, e1, h1⟩ := one w
  obtain ⟨c', e2, h2⟩ := one w'
  rw [e1, e2] at e
  have hp : ∀ (p : Prop) [Decidable p], (if p then 1 else 0) ≤ 1 ∧ ((if p then 1 else 0) = 1 ↔ p) := fun p _ => by split <;> simp_all
  obtain ⟨p1, p2⟩ := hp (MP (two old) (edges R) w 0)
  obtain ⟨p3, p4⟩ := hp (MP (two old) (edges R) w 1)
  obtain ⟨q1, q2⟩ := hp (MP (two old) (edges R) w' 0)
  obtain ⟨q3, q4⟩ := hp (MP (two old) (edges R) w' 1)
  generalize (if MP (two old) (edges R) w 0 then 1 else 0) = a0 at *
  generalize (if MP (two old) (edges R) w 1 then 1 else 0) = a1 at *
  generalize (if MP (two old) (edges R) w' 0 then 1 else 0) = b0 at *
  generalize (if MP (two old) (edges R) w' 1 then 1 else 0) = b1 at *
  have f0 : a0 = b0 := by omega
  have f1 : a1 = b1 := by omega
  have fc : c = c' := by omega
  refine ⟨fun k hk => ?_, fun k => ?_⟩
  · have : k = 0 ∨ k = 1 := by omega
    rcases this with rfl | rfl
    · rw [← p2, ← q2, f0]
    · rw [← p4, ← q4, f1]
  · rw [inRow_ends hR, inRow_ends hR]
    rcases h1 with ⟨h1, h3⟩ | ⟨x, h1, h3⟩ <;> rcases h2 with ⟨h2, h4⟩ | ⟨x', h2, h4⟩
    · exact ⟨fun ⟨x, hx, _⟩ => absurd hx (h3 x), fun ⟨x, hx, _⟩ => absurd hx (h4 x)⟩
    · have := (codeX_lt hR h2).1
      omega
    · have := (codeX_lt hR h1).1
      omega
    · obtain ⟨g1, g2, g3⟩ := codeX_inj hR h1 h2 (by omega)
      constructor
      · rintro ⟨y, hy, e, row, hr, hl, rfl, hpre⟩
        obtain rfl := hy.one h1
        exact ⟨x', h2, e, row, hr, by rw [hl, g1], by rw [g2], (g3 row (List.mem_of_getElem? hr) hl).1 hpre⟩
      · rintro ⟨y, hy, e, row, hr, hl, rfl, hpre⟩
        obtain rfl := hy.one h2
        exact ⟨x, h1, e, row, hr, by rw [hl, g1], by rw [g2], (g3 row (List.mem_of_getElem? hr) (by rw [hl, g1])).2 hpre⟩
end
end Go.Proofs.Ytpoeklgoepjikaa.Sp

/-
  Loose states in which the characters of a range lead to an end: they take just these characters more, and few sets are met; no program is named here.
-/
namespace Go.Proofs.Ytpoeklgoepjikaa.Sp
open Go.Lib
open Au (Arc Lo Star May has)

theorem few_rows (lo hi : Int) : FewRows (rows lo hi) := ⟨fun _ h => rows_shape h, (rows_class lo hi).1, (rows_class lo hi).2.1, (rows_class lo hi).2.2⟩
theorem star_two {old : Lo} (h : May (two old)) {i k : Nat} (hi : i < 2) (hs : Star (two old) i k) : k < 2 := star_lt h hs hi
/-- The states behind Lead of an end. -/
noncomputable def led (old : Lo) (lo hi : Int) : List Lo := lead (two old) 0 1 (rows lo hi)
section
variable {old : Lo} {lo hi : Int}
theorem led_led (old : Lo) (lo hi : Int) : ∃ st, Led 2 (bs (two old)) (edges (rows lo hi)) st (led old lo hi) :=
  lead_led (n0 := two old) (p := 0) (q := 1) (by show 0 < 2; decide) (by show 1 < 2; decide) _ (rows lo hi) rfl fun row h => (rows_shape h).pos
theorem led_may (h : May (two old)) : May (led old lo hi) := by
  obtain ⟨st, hl⟩ := led_led old lo hi
  refine Led.may (n0 := two old) hl h fun ed hed r hr => ?_
  obtain ⟨row, hrow, rfl⟩ := List.mem_map.1 hed
  exact (rows_shape hrow).rng r hr
/-- Few sets are met. -/
theorem led_few (h : May (two old)) : ∃ i, Au.Few (led old lo hi) 20000 i := by
  obtain ⟨st, hl⟩ := led_led old lo hi
  refine few_of_code (led_may h) 9764 (code old (rows lo hi)) (code_lt (few_rows lo hi)) (fun w w' e k => ?_) 20000 (by decide)
  obtain ⟨h1, h2⟩ := code_inj (st := st) (few_rows lo hi) e
  have hlt : ∀ v, MP (two old) (edges (rows lo hi)) v k → k < 2 := fun v hv => hv.lt h fun ed hed => by
    obtain ⟨row, _, rfl⟩ := List.mem_map.1 hed
    exact (by decide : (1 : Nat) < 2)
  rw [Led.path_iff (n0 := two old) hl h, Led.path_iff (n0 := two old) hl h, h2 k]
  constructor
  · rintro (h3 | h3)
    · exact .inl ((h1 k (hlt _ h3)).1 h3)
    · exact .inr h3
  · rintro (h3 | h3)
    · exact .inl ((h1 k (hlt _ h3)).2 h3)
    · exact .inr h3
theorem takes_mp {E : List Edge} {st : Nat → Nat → Nat} {n : List Lo} (h : May (two old)) (hm : May n) (hl : Led 2 (bs (two old)) E st n) (hE : ∀ ed ∈ E, ed.dst < 2) (w : List Nat) :
    Au.takes n (Au.first n) w = true ↔ ∃ k, MP (two old) E w k ∧ (bs (two old) k).fin = true := by
  rw [takes_path hm]
  constructor
  · rintro ⟨k, s, h1, h2, h3⟩
    rcases (Led.path_iff (n0 := two old) hl h).1 h1 with h4 | ⟨e, ed, u, x, he, hx1, hx2, rfl, _⟩
    · have hk := h4.lt h hE
      obtain ⟨A, h5, _⟩ := hl.main k hk
      rw [h2] at h5
      cases h5
      exact ⟨k, h4, h3⟩
    · rw [(hl.chain e ed x.length _ he hx1 (List.getElem?_eq_getElem hx2)).1] at h2
      cases h2
      cases h3
  · rintro ⟨k, h1, h2⟩
    obtain ⟨A, h5, _⟩ := hl.main k (h1.lt h hE)
    exact ⟨k, _, (Led.path_iff (n0 := two old) hl h).2 (.inl h1), h5, h2⟩
/-- The bytes of a character. -/
def word (c : Int) : List Nat := (encodeRune c).map UInt8.toNat
theorem word_part {c : Int} (h : Ut.whole c = true) : Part (word c) := by
  have hb : ∀ l : List Int, (∀ x ∈ l, 0 ≤ x ∧ x < 256) → (l.map fun x => x.toNat.toUInt8).map UInt8.toNat = l.map Int.toNat := fun l hl => by
    rw [List.map_map]
    refine List.map_congr_left fun x hx => ?_
    have := hl x hx
    exact Ut.byteZ x this.1 this.2
  have e : word c = (encodeRuneZ c).map Int.toNat := hb _ (encodeRuneZ_byte c)
  rw [e]
  rcases Ut.run_cases c h with ⟨h1, h2, e⟩ | ⟨h1, h2, e⟩ | ⟨h1, e⟩ | ⟨h1, h2, e⟩ <;> rw [e]
  · exact ⟨_, [], rfl, fun h => by have := h.1; omega, fun c hc => by cases hc⟩
  · refine ⟨_, [(128 + c % 64).toNat], rfl, fun h => by have := h.2; omega, fun d hd => ?_⟩
    simp only [List.mem_cons, List.not_mem_nil, or_false] at hd
    subst hd
    exact ⟨by omega, by omega⟩
  · refine ⟨_, [(128 + c / 64 % 64).toNat, (128 + c % 64).toNat], rfl, fun h => by have := h.2; omega, fun d hd => ?_⟩
    simp only [List.mem_cons, List.not_mem_nil, or_false] at hd
    rcases hd with rfl | rfl
    · exact ⟨by omega, by omega⟩
    · exact ⟨by omega, by omega⟩
  · refine ⟨_, [(128 + c / 4096 % 64).toNat, (128 + c / 64 % 64).toNat, (128 + c % 64).toNat], rfl, fun h => by have := h.2; omega, fun d hd => ?_⟩
    simp only [List.mem_cons, List.not_mem_nil, or_false] at hd
    rcases hd with rfl | rfl | rfl
    · exact ⟨by omega, by omega⟩
    · exact ⟨by omega, by omega⟩
    · exact ⟨by omega, by omega⟩
theorem fitsN_iff : ∀ (row : List (Int × Int)) (l : List UInt8), FitsN row (l.map UInt8.toNat) ↔ fits row l = true
  | [], [] => ⟨fun _ => rfl, fun _ => ⟨rfl, Nat.le_refl _, fun i r c h => by simp at h⟩⟩
  | [], _ :: _ => ⟨fun h => by have := h.1; simp at this, fun h => by cases h⟩
  | _ :: _, [] => ⟨fun h => by have := h.1; simp at this, fun h => by cases h⟩
  | r :: rs, c :: cs => by
    have ih := fitsN_iff rs cs
    show _ ↔ (decide _ && fits rs cs) = true
    rw [Bool.and_eq_true, decide_eq_true_iff, ← ih]
    constructor
    · rintro ⟨h1, h2, h3⟩
      refine ⟨h3 0 r c.toNat rfl rfl, by simpa using h1, by simpa using h2, fun i r' c' a b => h3 (i + 1) r' c' (by simpa using a) (by simpa using b)⟩
    · rintro ⟨h0, h1, h2, h3⟩
      refine ⟨by simpa using h1, by simpa using h2, fun i r' c' a b => ?_⟩
      cases i with
      | zero =>
        simp at a b
        subst a b
        exact h0
      | succ i => exact h3 i r' c' (by simpa using a) (by simpa using b)
/-- Some row holds a character: it is in the range. -/
theorem rows_fit (lo hi : Int) {c : Int} (h : Ut.whole c = true) : (∃ row ∈ rows lo hi, FitsN row (word c)) ↔ lo ≤ c ∧ c ≤ hi := by
  have hh := rows_hold lo hi c h
  constructor
  · rintro ⟨row, hrow, hf⟩
    by_cases q : lo ≤ c ∧ c ≤ hi
    · exact q
    · rw [if_neg q] at hh
      have := List.length_eq_zero_iff.1 hh
      rw [List.filter_eq_nil_iff] at this
      exact absurd ((fitsN_iff row (encodeRune c)).1 hf) (this row hrow)
  · intro q
    rw [if_pos q] at hh
    obtain ⟨row, hrow⟩ := List.length_eq_one_iff.1 hh
    have hm : row ∈ (rows lo hi).filter fun r => fits r (encodeRune c) := by rw [hrow]; simp
    rw [List.mem_filter] at hm
    exact ⟨row, hm.1, (fitsN_iff row (encodeRune c)).2 hm.2⟩
/-- What the states take of a character: what they took, and the range. -/
theorem led_takes (h : May (two old)) {c : Int} (hc : Ut.whole c = true) : Au.takes (led old lo hi) (Au.first (led old lo hi)) (word c) = true ↔ Au.takes (two old) (Au.first (two old)) (word c) = true ∨ (lo ≤ c ∧ c ≤ hi) := by
  obtain ⟨st, hl⟩ := led_led old lo hi
  have hdst : ∀ ed ∈ edges (rows lo hi), ed.dst < 2 := fun ed hed => by
    obtain ⟨row, _, rfl⟩ := List.mem_map.1 hed
    exact (by decide : (1 : Nat) < 2)
  have h0 : Led 2 (bs (two old)) [] (fun _ _ => 0) (two old) := Led.nil (two old) (bs (two old)) (fun _ h => bs_at h) _
  rw [takes_mp h (led_may h) hl hdst, takes_mp h h h0 (fun ed hed => by cases hed), ← rows_fit lo hi hc]
  constructor
  · rintro ⟨k, h1, h2⟩
    rcases mp_two.1 h1 with h3 | ⟨rfl, u, x, row, hrow, e, hf, _⟩
    · exact .inl ⟨k, h3, h2⟩
    · have hx := (preN_part (rows_shape hrow) hf.2 (by have := (rows_shape hrow).pos; have := hf.1; omega)).1
      obtain ⟨_, e2⟩ := part_one (u := []) (word_part hc) hx (by simpa using e)
      exact .inr ⟨row, hrow, by rw [e2]; exact hf⟩
  · rintro (⟨k, h1, h2⟩ | ⟨row, hrow, hf⟩)
    · exact ⟨k, mp_two.2 (.inl h1), h2⟩
    · exact ⟨1, mp_two.2 (.inr ⟨rfl, [], word c, row, hrow, rfl, hf, .nil .refl⟩), rfl⟩
/-- How many arcs and states there are. -/
theorem led_size (old : Lo) (lo hi : Int) : 2 ≤ (led old lo hi).length ∧ (led old lo hi).length ≤ 62 ∧ ((led old lo hi).map fun s => s.arcs.length).sum ≤ old.arcs.length + 80 := by
  have hstep : ∀ (m : Nat) (R : List (List (Int × Int))), R.length = m → (∀ row ∈ R, Shape row) → 2 ≤ (lead (two old) 0 1 R).length ∧ (lead (two old) 0 1 R).length ≤ 2 + 3 * m ∧ ((lead (two old) 0 1 R).map fun s => s.arcs.length).sum ≤ old.arcs.length + 4 * m := by
    intro m
    induction m with
    | zero =>
      intro R hR _
      obtain rfl := List.length_eq_zero_iff.1 hR
      simp [lead, two]
    | succ m ih =>
      intro R hR hs
      obtain ⟨T, row, rfl⟩ : ∃ T row, R = T ++ [row] := ⟨R.dropLast, R.getLast (by intro e; rw [e] at hR; simp at hR), (List.dropLast_concat_getLast _).symm⟩
      obtain ⟨i1, i2, i3⟩ := ih T (by simpa using hR) fun r h => hs r (List.mem_append_left _ h)
      have hsh := hs row (by simp)
      rw [lead_snoc]
      generalize lead (two old) 0 1 T = n at *
      obtain ⟨r, rs, rfl⟩ : ∃ r rs, row = r :: rs := by cases row with | nil => exact absurd hsh.pos (by simp) | cons r rs => exact ⟨r, rs, rfl⟩
      have hl := hsh.len
      simp only [List.length_cons] at hl
      rw [leadBy_form 1 rs r n 0 (by omega)]
      have ha : ((addArc n 0 ⟨r.1, r.2, if rs = [] then ((1 : Nat) : Int) else (n.length : Int)⟩).map fun s => s.arcs.length).sum ≤ (n.map fun s => s.arcs.length).sum + 1 := by
        cases n with
        | nil => simp [addArc]
        | cons s t => simp [addArc]; omega
      have hc : ∀ k l, ((chainL 1 k l).map fun s => s.arcs.length).sum = l.length := by
        intro k l
        induction l generalizing k with
        | nil => rfl
        | cons x t ih => simp [chainL, ih]; omega
      rw [List.length_append, addArc_length, chainL_length, List.map_append, List.sum_append, hc]
      omega
  have h := hstep _ (rows lo hi) rfl fun row h => rows_shape h
  have := rows_few lo hi
  unfold led
  omega
end
end Go.Proofs.Ytpoeklgoepjikaa.Sp

/-
  The given grown: arcs, with one byte more.
-/
namespace Go.Proofs.Ytpoeklgoepjikaa
open Go.RowKit

theorem Ap.Two.refl (w : World) (v : Value) : Ap.Two w w v v := .inl ⟨rfl, rfl, rfl, rfl, Nat.le_refl _, fun _ _ _ => rfl⟩

end Go.Proofs.Ytpoeklgoepjikaa

/-
  What a walk over states holds in memory: the states met, the states told, the one at hand; how it goes on.
-/
namespace Go.Proofs.Ytpoeklgoepjikaa
open Go.RowKit

theorem kinds_ne {w : World} {g h : Nat} {c c' : Array Value} {t t' : TypeId} {f f' : Nat × Nat} (h1 : w.heap[g]? = some (.cells c t f)) (h2 : w.heap[h]? = some (.cells c' t' f')) (hne : t ≠ t') : g ≠ h := by
  rintro rfl
  rw [h1] at h2
  cases h2
  exact hne rfl

/-- States told: L holds their slices of arcs. -/
structure Told2 (w : World) (B : Nat) (L : List (Bool × Value)) (out : List Au.St) (va : Value) : Prop where
  len : L.length = out.length
  each : ∀ j (h : j < L.length) (h' : j < out.length), L[j].1 = out[j].fin ∧ OwnA w B L[j].2 out[j].arcs ∧ ∀ g, L[j].2.ownBlock = some g → va.ownBlock ≠ some g
theorem Told2.keep {w w' : World} {B : Nat} {L : List (Bool × Value)} {out : List Au.St} {va va' : Value} (h : Told2 w B L out va) (hva : ∀ g, va'.ownBlock = some g → va.ownBlock = some g ∨ w.heap.size ≤ g) (e : ∀ g, g < w.heap.size → (∃ c fz, w.heap[g]? = some (.cells c 44 fz)) → va.ownBlock ≠ some g → w'.heap[g]? = w.heap[g]?) : Told2 w' B L out va' := by
  refine ⟨h.len, fun j hj hj' => ?_⟩
  obtain ⟨h1, h2, h3⟩ := h.each j hj hj'
  refine ⟨h1, h2.keep fun k hk => e k (h2.lt k hk).2 (h2.kind k hk) (h3 k hk), fun g hg hv => ?_⟩
  rcases hva g hv with h4 | h4
  · exact h3 g hg h4
  · have := (h2.lt g hg).2
    omega
/-- Behind the last state. -/
structure Outr (w : World) (B : Nat) (vm vo : Value) (met : List Nat) (L : List (Bool × Value)) (out : List Au.St) : Prop where
  met : OwnN w B vm met
  outs : OwnT w B vo L
  told : Told2 w B L out (.slice none 0 0)
/-- Within one state, which lies at block bs. -/
structure Inn (w : World) (B bs : Nat) (vm vo va : Value) (met : List Nat) (L : List (Bool × Value)) (out : List Au.St) (fin : Bool) (arcs : List Au.Arc) : Prop where
  met : OwnN w B vm met
  outs : OwnT w B vo L
  told : Told2 w B L out va
  arcs : OwnA w B va arcs
  row : w.heap[bs]? = some (.cells #[.bool fin, va] 64 (0, 0))
  ne : vo.ownBlock ≠ some bs
  lo : B ≤ bs
theorem OwnN.keep2 {w w' : World} {B : Nat} {v : Value} {l : List Nat} (h : OwnN w B v l) (e : ∀ k, v.ownBlock = some k → k < w.heap.size → w'.heap[k]? = w.heap[k]?) : OwnN w' B v l := ownsRow_keep h fun k hk => e k hk (World.ownsRow.lt h k hk).2
theorem OwnT.keep2 {w w' : World} {B : Nat} {v : Value} {l : List (Bool × Value)} (h : OwnT w B v l) (e : ∀ k, v.ownBlock = some k → k < w.heap.size → w'.heap[k]? = w.heap[k]?) : OwnT w' B v l := ownsRow_keep h fun k hk => e k hk (World.ownsRow.lt h k hk).2
theorem Outr.open {w : World} {B : Nat} {vm vo : Value} {met : List Nat} {L : List (Bool × Value)} {out : List Au.St} (h : Outr w B vm vo met L out) (hB : B ≤ w.heap.size) (fin : Bool) :
    Inn (w.alloc (.cells #[.bool fin, .slice none 0 0] 64)) B w.heap.size vm vo (.slice none 0 0) met L out fin [] := by
  have old : ∀ k, k < w.heap.size → (w.alloc (.cells #[.bool fin, .slice none 0 0] 64)).heap[k]? = w.heap[k]? := fun k hk => Go.Deep.blk_alloc_lt _ _ _ hk
  refine ⟨h.met.keep2 fun k _ hk => old k hk, h.outs.keep2 fun k _ hk => old k hk, h.told.keep (fun g hg => by cases hg) fun g hg _ _ => old g hg, OwnA.nil0 _ _, Go.Deep.blk_alloc_new _ _, fun e => ?_, hB⟩
  have := (World.ownsRow.lt h.outs _ e).2
  omega
theorem Inn.below {w w' : World} {B bs : Nat} {vm vo va : Value} {met : List Nat} {L : List (Bool × Value)} {out : List Au.St} {fin : Bool} {arcs : List Au.Arc} (h : Inn w B bs vm vo va met L out fin arcs) (hb : Below w.heap.size w w') : Inn w' B bs vm vo va met L out fin arcs :=
  ⟨h.met.keep2 fun k _ hk => hb.block k hk, h.outs.keep2 fun k _ hk => hb.block k hk, h.told.keep (fun _ hg => .inl hg) fun g hg _ _ => hb.block g hg, h.arcs.keep fun k hk => hb.block k (h.arcs.lt k hk).2, (hb.block bs (Array.getElem?_eq_some_iff.1 h.row).1).trans h.row, h.ne, h.lo⟩
/-- One state more is met. -/
theorem Inn.push {w w' : World} {B bs : Nat} {vm vm' vo va : Value} {met met' : List Nat} {L : List (Bool × Value)} {out : List Au.St} {fin : Bool} {arcs : List Au.Arc} (h : Inn w B bs vm vo va met L out fin arcs) (h2 : Ap.Two w w' vm vm') (hm : OwnN w' B vm' met') : Inn w' B bs vm' vo va met' L out fin arcs := by
  have far : ∀ k c fz t, k < w.heap.size → w.heap[k]? = some (.cells c t fz) → t ≠ 3 → w'.heap[k]? = w.heap[k]? := fun k c fz t hk hc ht => h2.far hk fun e => by
    obtain ⟨c', fz', hc'⟩ := h.met.kind k e
    exact kinds_ne hc hc' ht rfl
  refine ⟨hm, h.outs.keep2 fun k hv hk => ?_, h.told.keep (fun g hg => .inl hg) fun g hg ⟨c, fz, hc⟩ _ => far g c fz _ hg hc (by decide), h.arcs.keep fun k hk => ?_, ?_, h.ne, h.lo⟩
  · obtain ⟨c, fz, hc⟩ := h.outs.kind k hv
    exact far k c fz _ hk hc (by decide)
  · obtain ⟨c, fz, hc⟩ := h.arcs.kind k hk
    exact far k c fz _ (h.arcs.lt k hk).2 hc (by decide)
  · exact (far bs _ _ _ (Array.getElem?_eq_some_iff.1 h.row).1 h.row (by decide)).trans h.row
/-- Its arcs have grown, and their slice is put back. -/
theorem Inn.grown {w w' : World} {B bs : Nat} {vm vo va va' : Value} {met : List Nat} {L : List (Bool × Value)} {out : List Au.St} {fin : Bool} {arcs arcs' : List Au.Arc} (h : Inn w B bs vm vo va met L out fin arcs) (h2 : Ap.Two w w' va va') (ha : OwnA w' B va' arcs') : Inn (w'.setCell ⟨bs, 1, none⟩ va') B bs vm vo va' met L out fin arcs' := by
  have far : ∀ k c fz t, k < w.heap.size → w.heap[k]? = some (.cells c t fz) → t ≠ 44 → w'.heap[k]? = w.heap[k]? := fun k c fz t hk hc ht => h2.far hk fun e => by
    obtain ⟨c', fz', hc'⟩ := h.arcs.kind k e
    exact kinds_ne hc hc' ht rfl
  have hbs := (Array.getElem?_eq_some_iff.1 h.row).1
  have hrow := (far bs _ _ _ hbs h.row (by decide)).trans h.row
  have oth : ∀ k, k ≠ bs → (w'.setCell ⟨bs, 1, none⟩ va').heap[k]? = w'.heap[k]? := fun k hk => heap_other _ _ _ _ _ hk
  refine ⟨h.met.keep2 fun k hv hk => ?_, h.outs.keep2 fun k hv hk => ?_, h.told.keep (fun _ hg => h2.at hg) fun g hg ⟨c, fz, hc⟩ hv => ?_, ha.keep fun k hk => ?_, ?_, h.ne, h.lo⟩
  · obtain ⟨c, fz, hc⟩ := h.met.kind k hv
    exact (oth k (kinds_ne hc h.row (by decide))).trans (far k c fz _ hk hc (by decide))
  · obtain ⟨c, fz, hc⟩ := h.outs.kind k hv
    exact (oth k (fun e => h.ne (e ▸ hv))).trans (far k c fz _ hk hc (by decide))
  · exact (oth g (kinds_ne hc h.row (by decide))).trans (h2.far hg hv)
  · obtain ⟨c, fz, hc⟩ := ha.kind k hk
    exact oth k (kinds_ne hc hrow (by decide))
  · rw [setCell_eq_setRow w' bs 1 _ _ _ _ hrow]
    exact setRow_heap w' bs _ _ _ _ hrow
/-- The state is told. -/
theorem Inn.close {w w' : World} {B bs : Nat} {vm vo vo' va : Value} {met : List Nat} {L : List (Bool × Value)} {out : List Au.St} {fin : Bool} {arcs : List Au.Arc} (h : Inn w B bs vm vo va met L out fin arcs) (h2 : Ap.Two w w' vo vo') (ho : OwnT w' B vo' (L ++ [(fin, va)])) : Outr w' B vm vo' met (L ++ [(fin, va)]) (out ++ [⟨fin, arcs⟩]) := by
  have far : ∀ k c fz t, k < w.heap.size → w.heap[k]? = some (.cells c t fz) → t ≠ 64 → w'.heap[k]? = w.heap[k]? := fun k c fz t hk hc ht => h2.far hk fun e => by
    obtain ⟨c', fz', hc'⟩ := h.outs.kind k e
    exact kinds_ne hc hc' ht rfl
  have hl := h.told.len
  refine ⟨h.met.keep2 fun k hv hk => ?_, ho, by simp [hl], fun j hj hj' => ?_⟩
  · obtain ⟨c, fz, hc⟩ := h.met.kind k hv
    exact far k c fz _ hk hc (by decide)
  · by_cases e : j < L.length
    · obtain ⟨h3, h4, _⟩ := h.told.each j e (by omega)
      rw [List.getElem_append_left e, List.getElem_append_left (by omega)]
      refine ⟨h3, h4.keep fun k hk => ?_, fun g _ hv => by cases hv⟩
      obtain ⟨c, fz, hc⟩ := h4.kind k hk
      exact far k c fz _ (h4.lt k hk).2 hc (by decide)
    · have e' : j = L.length := by simp at hj; omega
      subst e'
      simp only [List.getElem_append_right (Nat.le_refl _), Nat.sub_self, List.getElem_cons_zero]
      have : (out ++ [(⟨fin, arcs⟩ : Au.St)])[L.length] = ⟨fin, arcs⟩ := by
        simp only [hl, List.getElem_append_right (Nat.le_refl _), Nat.sub_self, List.getElem_cons_zero]
      rw [this]
      refine ⟨rfl, h.arcs.keep fun k hk => ?_, fun g _ hv => by cases hv⟩
      obtain ⟨c, fz, hc⟩ := h.arcs.kind k hk
      exact far k c fz _ (h.arcs.lt k hk).2 hc (by decide)
/-- What has been told is a slice of states. -/
theorem Outr.sts {w : World} {B : Nat} {vm vo : Value} {met : List Nat} {L : List (Bool × Value)} {out : List Au.St} (h : Outr w B vm vo met L out) (F : Nat → Prop) (hF : ∀ g, B ≤ g → F g) : StS F w vo out := by
  obtain ⟨a, cap, h1, h2, h3, h4⟩ := h.outs.opened
  have hl := h.told.len
  rw [hl] at h1 h2
  refine ⟨a, cap, h1, h2, h3, fun h0 => ?_⟩
  obtain ⟨g, h5, h6, h7, h8⟩ := h4 (by omega)
  refine ⟨g, 0, h5, h7, hF g h6, fun j hj => ?_⟩
  obtain ⟨c1, c2⟩ := h8 j (by omega)
  obtain ⟨t1, t2, _⟩ := h.told.each j (by omega) hj
  rw [Nat.zero_add]
  exact ⟨c1.trans (by rw [t1]), _, c2, t2.arcs F hF⟩
theorem Inn.cells {w : World} {B bs : Nat} {vm vo va : Value} {met : List Nat} {L : List (Bool × Value)} {out : List Au.St} {fin : Bool} {arcs : List Au.Arc} (h : Inn w B bs vm vo va met L out fin arcs) : w.cell? ⟨bs, 0, none⟩ = some (.bool fin) ∧ w.cell? ⟨bs, 1, none⟩ = some va ∧ w.frozen? ⟨bs, 1, none⟩ = false ∧ bs < w.heap.size := by
  refine ⟨?_, ?_, ?_, (Array.getElem?_eq_some_iff.1 h.row).1⟩
  · simp [World.cell?, h.row]
  · simp [World.cell?, h.row]
  · simp [World.frozen?, h.row]
theorem two_below {B : Nat} {w0 w w' : World} {v v' : Value} (hb : Below B w0 w) (h : Ap.Two w w' v v') (hv : ∀ g, v.ownBlock = some g → B ≤ g) (hB : B ≤ w.heap.size) : Below B w0 w' := by
  obtain ⟨h1, h2, h3⟩ := h.rest
  exact hb.trans ⟨h1, h2, h3, h.size, fun k hk => h.far (by omega) fun e => by have := hv k e; omega⟩
/-- Its slice still lies where it lay, while its arcs grow. -/
theorem Inn.row_grown {w w' : World} {B bs : Nat} {vm vo va va' : Value} {met : List Nat} {L : List (Bool × Value)} {out : List Au.St} {fin : Bool} {arcs : List Au.Arc} (h : Inn w B bs vm vo va met L out fin arcs) (h2 : Ap.Two w w' va va') : w'.cell? ⟨bs, 1, none⟩ = some va ∧ w'.frozen? ⟨bs, 1, none⟩ = false := by
  have hbs := (Array.getElem?_eq_some_iff.1 h.row).1
  have hrow : w'.heap[bs]? = some (.cells #[.bool fin, va] 64 (0, 0)) := (h2.far hbs fun e => by
    obtain ⟨c', fz', hc'⟩ := h.arcs.kind bs e
    exact kinds_ne h.row hc' (by decide) rfl).trans h.row
  exact ⟨by simp [World.cell?, hrow], by simp [World.frozen?, hrow]⟩
end Go.Proofs.Ytpoeklgoepjikaa

/-
  The given Least: the walk.
-/
namespace Go.Proofs.Ytpoeklgoepjikaa
open Go.RowKit
namespace Au
theorem least_dead {d : List St} (hf : Fits d) (h : Dead (ofL d) (some 0)) : least d = [⟨false, []⟩] := by
  have hgo : ∀ c, (ofL d).walk.go 0 c = none := fun c => go_dead fun w => h (c :: w)
  have hb : ∀ c, (ofL d).walk.bytes 0 [0] c = ([0], []) := by
    intro c
    induction c with
    | zero => rfl
    | succ c ih =>
      rw [Walk.bytes, ih]
      unfold Walk.byte
      rw [hgo c]
  have hfin : (ofL d).walk.fin 0 = false := h []
  have h1 : (ofL d).walk.states 0 1 = ([0], [⟨false, []⟩]) := by
    simp only [Walk.states, List.getElem?_cons_zero, hb, hfin, List.nil_append]
  have hd : (ofL d).walk.Done 0 1 := by
    unfold Walk.Done Walk.met
    rw [h1]
    exact Nat.le_refl _
  have := done_same (ofL d).walk 0 d.length 1 (least_done hf.pos hf.row) hd
  unfold least Walk.out
  rw [this, h1]
theorem met_in {d : List St} (hf : Fits d) (i : Nat) : ∀ x ∈ (ofL d).walk.met 0 i, x < d.length := met_all (ofL d).walk (fun x => x < d.length) (go_in hf.row) 0 hf.pos i
theorem bytes_in {d : List St} (hf : Fits d) (a : Nat) (ha : a < d.length) (m : List Nat) (hm : ∀ x ∈ m, x < d.length) (c : Nat) : ∀ x ∈ ((ofL d).walk.bytes a m c).1, x < d.length := bytes_all (ofL d).walk (fun x => x < d.length) (go_in hf.row) a ha m c hm
theorem met_le_d {d : List St} (hf : Fits d) (i : Nat) : ((ofL d).walk.met 0 i).length ≤ d.length :=
  met_few (ofL d).walk (fair_walk _ (ofL_top hf.row)).refl id d.length (fun x => x < d.length) (go_in hf.row) 0 hf.pos (fun _ h => h) (fun _ _ _ _ h => h) i
theorem bytes_le_d {d : List St} (hf : Fits d) (i : Nat) (a : Nat) (ha : ((ofL d).walk.met 0 i)[i]? = some a) (c : Nat) (hc : c ≤ 256) : ((ofL d).walk.bytes a ((ofL d).walk.met 0 i) c).1.length ≤ d.length := by
  obtain ⟨k, hk⟩ : ∃ k, 256 = c + k := ⟨256 - c, by omega⟩
  have h1 := bytes_le (ofL d).walk a ((ofL d).walk.met 0 i) c k
  have h2 := met_le_d hf (i + 1)
  have e : (ofL d).walk.met 0 (i + 1) = ((ofL d).walk.bytes a ((ofL d).walk.met 0 i) 256).1 := by
    unfold Walk.met at *
    simp only [Walk.states]
    rw [ha]
  rw [e] at h2
  rw [← hk] at h1
  omega
theorem bytes_at {d : List St} (a : Nat) (m : List Nat) (i c : Nat) (ha : m[i]? = some a) : (((ofL d).walk.bytes a m c).1)[i]? = some a := by
  obtain ⟨r, h⟩ := bytes_grows (ofL d).walk a m c
  rw [h, List.getElem?_append_left (List.getElem?_eq_some_iff.1 ha).1]
  exact ha
theorem grown_length (l : List Arc) (c k : Nat) : (grown l c k).length ≤ l.length + 1 := by
  rcases last_cases l with rfl | ⟨r, x, rfl⟩
  · simp [grown_nil]
  · rw [grown_snoc]
    split <;> simp
theorem bytes_len {σ : Type} (W : Walk σ) (a : σ) (m : List σ) (c : Nat) : (W.bytes a m c).2.length ≤ c := by
  induction c with
  | zero => exact Nat.le_refl _
  | succ c ih =>
    rw [Walk.bytes]
    unfold Walk.byte
    split
    · omega
    · have := grown_length (W.bytes a m c).2 c (find W.same (W.bytes a m c).1 ‹_›)
      dsimp only
      omega
theorem bytes_none {σ : Type} (W : Walk σ) (a : σ) (m : List σ) (c : Nat) (h : W.go a c = none) : W.bytes a m (c + 1) = W.bytes a m c := by
  rw [Walk.bytes]
  unfold Walk.byte
  rw [h]
theorem bytes_some {σ : Type} (W : Walk σ) (a : σ) (m : List σ) (c : Nat) (t : σ) (h : W.go a c = some t) : W.bytes a m (c + 1) = (if find W.same (W.bytes a m c).1 t = (W.bytes a m c).1.length then (W.bytes a m c).1 ++ [t] else (W.bytes a m c).1, grown (W.bytes a m c).2 c (find W.same (W.bytes a m c).1 t)) := by
  rw [Walk.bytes]
  conv => lhs; unfold Walk.byte
  rw [h]
theorem states_next {σ : Type} (W : Walk σ) (s : σ) (i : Nat) (a : σ) (h : (W.met s i)[i]? = some a) : W.met s (i + 1) = (W.bytes a (W.met s i) 256).1 ∧ W.out s (i + 1) = W.out s i ++ [⟨W.fin a, (W.bytes a (W.met s i) 256).2⟩] := by
  unfold Walk.met Walk.out at *
  simp only [Walk.states]
  rw [h]
  exact ⟨rfl, rfl⟩
end Au
theorem OwnN.form {w : World} {B : Nat} {v : Value} {l : List Nat} (h : OwnN w B v l) (h0 : 0 < l.length) : ∃ g cap, v = .slice (some ⟨g, 0, none⟩) l.length cap ∧ B ≤ g ∧ g < w.heap.size ∧ ∀ j (_ : j < l.length), w.cell? ⟨g, j, none⟩ = some (.int .i64 (l[j] : Int)) := by
  rcases h.2 with ⟨_, h1⟩ | ⟨g, cap, cur, rfl, hg, hh, hnc, hcp, hcs, htake⟩
  · omega
  · have hown : w.ownsRow B 3 1 (.slice (some ⟨g, 0, none⟩) l.length cap) l.length (natsV l) := h
    refine ⟨g, cap, rfl, hg, (hown.lt g rfl).2, fun j hj => ?_⟩
    rw [hown.cellAt j (by omega)]
    simp [natsV, hj]

end Go.Proofs.Ytpoeklgoepjikaa

/-
  The given May and Takes.
-/
namespace Go.Proofs.Ytpoeklgoepjikaa
open Go.RowKit
namespace Au
def okA (n : Nat) (a : Arc) : Prop := 0 ≤ a.lo ∧ a.hi ≤ 255 ∧ a.lo ≤ a.hi ∧ 0 ≤ a.to ∧ a.to < n
def okF (n : Nat) (f : Int) : Prop := 0 ≤ f ∧ f < n
def okS (n : Nat) (d : List Lo) (i : Nat) : Prop := ∀ s, d[i]? = some s → (∀ a ∈ s.arcs, okA n a) ∧ ∀ f ∈ s.free, okF n f
theorem may_iff (d : List Lo) : May d ↔ 0 < d.length ∧ ∀ i, i < d.length → okS d.length d i := by
  constructor
  · intro h
    refine ⟨h.pos, fun i hi s hs => ?_⟩
    rw [List.getElem?_eq_getElem hi] at hs
    cases hs
    exact ⟨fun a ha => by have := h.arc i hi a ha; unfold okA; omega, fun f hf => h.free i hi f hf⟩
  · rintro ⟨h0, h⟩
    refine ⟨h0, fun i hi a ha => ?_, fun i hi f hf => (h i hi _ (List.getElem?_eq_getElem hi)).2 f hf⟩
    have := (h i hi _ (List.getElem?_eq_getElem hi)).1 a ha
    unfold okA at this
    omega
open Classical in
noncomputable def may (d : List Lo) : Bool := decide (May d)
theorem may_true (d : List Lo) : may d = true ↔ May d := by simp [may]
end Au

set_option maxRecDepth 100000 in
set_option maxHeartbeats 4000000 in
theorem may_any (F : Nat → Prop) (w : World) (u : Value) (d : List Au.Lo) (hu : LoS F w u d) :
    Calls Try.prog 5 #[u] w fun e w' => e = .returned (.bool (Au.may d)) ∧ Below w.heap.size w w' := by
  obtain ⟨b, cap', rfl, hd1, hd2, hd⟩ := hu
  obtain ⟨n, hn⟩ : ∃ n, n = d.length := ⟨_, rfl⟩
  have hn2 : n ≤ 9223372036854775807 := by omega
  have HD := Lib.hid hd
  have HN := Lib.hid hn
  have hgood : 0 < d.length → (∀ i, i < d.length → Au.okS d.length d i) → true = Au.may d := fun h0 h => ((Au.may_true d).2 ((Au.may_iff d).2 ⟨h0, h⟩)).symm
  have hbad : ∀ i, i < d.length → ¬ Au.okS d.length d i → false = Au.may d := fun i hi h => by
    symm
    rw [← Bool.not_eq_true, Au.may_true, Au.may_iff]
    exact fun e => h (e.2 i hi)
  have hnone : d.length = 0 → false = Au.may d := fun h => by
    symm
    rw [← Bool.not_eq_true, Au.may_true, Au.may_iff]
    omega
  rw [← hn] at hgood hbad hnone ⊢
  generalize Au.may d = r at *
  have HG := Lib.hid hgood
  have HB := Lib.hid hbad
  have HO := Lib.hid hnone
  clear hd hd1 hn hgood hbad hnone
  go_enter Try.func5, Try.ntmps5
  go_wp2_with fail
  go_loopg [3] n (fun gg vi wx => ∃ i : Nat, i ≤ n ∧ gg = n - i ∧ vi = .int .i64 i ∧ Hid (∀ j, j < i → Au.okS n d j) ∧ Below w.heap.size w wx)
  case atStart => exact ⟨0, Nat.zero_le _, rfl, rfl, fun j h => by omega, Below.refl _ _⟩
  case round =>
    obtain ⟨i, hi, rfl, rfl, hS, hbel⟩ := hrel
    have HBE := Lib.hid hbel
    by_cases hin : i < n
    · have j1 : (i : Int) < (n : Int) := by omega
      have hid : i < d.length := by rw [← HN.out]; exact hin
      obtain ⟨g, o, rfl, hg, _, hcl⟩ := HD.out (by omega)
      obtain ⟨_, ⟨va, c1, hva⟩, vf, c2, hvf⟩ := hcl i hid
      have hBi : Hid (¬ ((∀ a ∈ d[i].arcs, Au.okA n a) ∧ ∀ f ∈ d[i].free, Au.okF n f) → false = r) := fun h => HB.out i hin (fun e => h (e _ (List.getElem?_eq_getElem hid)))
      have hst : Hid (((∀ a ∈ d[i].arcs, Au.okA n a) ∧ ∀ f ∈ d[i].free, Au.okF n f) → ∀ j, j < i + 1 → Au.okS n d j) := fun h j hj => by
        by_cases e : j = i
        · subst e
          intro s hs
          rw [List.getElem?_eq_getElem hid] at hs
          cases hs
          exact h
        · exact hS.out j (by omega)
      clear hS hcl hbel
      generalize d[i] = s at *
      obtain ⟨sf, l, fr⟩ := s
      dsimp only at hva hvf hBi hst
      obtain ⟨a2, cap2, rfl, he1, he2, he⟩ := hva
      obtain ⟨a3, cap3, rfl, hf1, hf2, hf⟩ := hvf
      obtain ⟨m, hm⟩ : ∃ m, m = l.length := ⟨_, rfl⟩
      obtain ⟨q, hq⟩ : ∃ q, q = fr.length := ⟨_, rfl⟩
      have HM := Lib.hid hm
      have HQ := Lib.hid hq
      have HE := Lib.hid he
      have HF := Lib.hid hf
      rw [← hm] at c1
      rw [← hq] at c2
      have m2 : m ≤ 9223372036854775807 := by omega
      have q2 : q ≤ 9223372036854775807 := by omega
      clear he he1 hm hf hf1 hq
      go_wp2_with fail
      go_loopg [4] m (fun gg vk wx => ∃ k : Nat, k ≤ m ∧ gg = m - k ∧ vk = .int .i64 k ∧ Hid (∀ j (h : j < l.length), j < k → Au.okA n l[j]) ∧ Below w.heap.size w wx)
      case atStart => exact ⟨0, Nat.zero_le _, rfl, rfl, fun j _ h => by omega, HBE.out⟩
      case round =>
        clear HBE
        obtain ⟨k, hk, rfl, rfl, hS, hbel⟩ := hrel
        have HBE := Lib.hid hbel
        have C1 := (hbel.cell (p := ⟨g, o + i * 3 + 1, none⟩) hg).trans c1
        by_cases hkm : k < m
        · have kl : k < l.length := by rw [← HM.out]; exact hkm
          obtain ⟨g2, o2, rfl, hg2, _, hcl2⟩ := HE.out (by omega)
          obtain ⟨d1, d2, d3⟩ := hcl2 k kl
          have e1 := (hbel.cell (p := ⟨g2, o2 + k * 3, none⟩) hg2).trans d1
          have e2 := (hbel.cell (p := ⟨g2, o2 + k * 3 + 1, none⟩) hg2).trans d2
          have e3 := (hbel.cell (p := ⟨g2, o2 + k * 3 + 2, none⟩) hg2).trans d3
          have j2 : (k : Int) < (m : Int) := by omega
          have hno : Hid (¬ Au.okA n l[k] → false = r) := fun h => hBi.out (fun e => h (e.1 _ (List.getElem_mem kl)))
          have hyes : Hid (Au.okA n l[k] → ∀ j (h : j < l.length), j < k + 1 → Au.okA n l[j]) := fun h j hj hjk => by
            by_cases e : j = k
            · subst e; exact h
            · exact hS.out j hj (by omega)
          have hA : Hid (Au.okA n l[k] ↔ 0 ≤ l[k].lo ∧ l[k].hi ≤ 255 ∧ l[k].lo ≤ l[k].hi ∧ 0 ≤ l[k].to ∧ l[k].to < n) := Iff.rfl
          clear hcl2 d1 d2 d3 hS hbel
          generalize l[k] = x at *
          obtain ⟨lo, hi', to⟩ := x
          dsimp only at e1 e2 e3 hA
          by_cases p1 : lo < 0
          · obtain rfl : false = r := hno.out (fun h => by have := hA.out.1 h; omega)
            clear hA hyes hno hst hBi HB HG HO
            go_wp2_with fail
            go_ret
            exact ⟨rfl, HBE.out.alloc HBE.out.size _⟩
          by_cases p2 : 255 < hi'
          · obtain rfl : false = r := hno.out (fun h => by have := hA.out.1 h; omega)
            clear hA hyes hno hst hBi HB HG HO
            go_wp2_with fail
            go_ret
            exact ⟨rfl, HBE.out.alloc HBE.out.size _⟩
          by_cases p3 : hi' < lo
          · obtain rfl : false = r := hno.out (fun h => by have := hA.out.1 h; omega)
            clear hA hyes hno hst hBi HB HG HO
            go_wp2_with fail
            go_ret
            exact ⟨rfl, HBE.out.alloc HBE.out.size _⟩
          by_cases p4 : to < 0
          · obtain rfl : false = r := hno.out (fun h => by have := hA.out.1 h; omega)
            clear hA hyes hno hst hBi HB HG HO
            go_wp2_with fail
            go_ret
            exact ⟨rfl, HBE.out.alloc HBE.out.size _⟩
          by_cases p5 : (n : Int) ≤ to
          · obtain rfl : false = r := hno.out (fun h => by have := hA.out.1 h; omega)
            clear hA hyes hno hst hBi HB HG HO
            go_wp2_with fail
            go_ret
            exact ⟨rfl, HBE.out.alloc HBE.out.size _⟩
          have H := Lib.hid (hyes.out (hA.out.2 (by omega)))
          clear hA hyes hno
          go_wp2_with fail
          go_roundg (m - (k + 1))
          case rel => exact ⟨k + 1, by omega, rfl, by go_num, H.out, HBE.out.alloc HBE.out.size _⟩
          case measure => omega
        · obtain rfl : k = m := by omega
          have hall : Hid (∀ a ∈ l, Au.okA n a) := fun a ha => by
            obtain ⟨j, hj, rfl⟩ := List.getElem_of_mem ha
            exact hS.out j hj (by rw [HM.out]; exact hj)
          clear hS hbel
          go_wp2_with fail
          go_loopg [6] q (fun gg vk wx => ∃ k : Nat, k ≤ q ∧ gg = q - k ∧ vk = .int .i64 k ∧ Hid (∀ j (h : j < fr.length), j < k → Au.okF n fr[j]) ∧ Below w.heap.size w wx)
          case atStart => exact ⟨0, Nat.zero_le _, rfl, rfl, fun j _ h => by omega, HBE.out⟩
          case round =>
            clear HBE
            obtain ⟨t, ht, rfl, rfl, hS, hbel⟩ := hrel
            have HBE := Lib.hid hbel
            have C2 := (hbel.cell (p := ⟨g, o + i * 3 + 2, none⟩) hg).trans c2
            by_cases htq : t < q
            · have kl : t < fr.length := by rw [← HQ.out]; exact htq
              obtain ⟨g3, o3, rfl, hg3, _, hcl3⟩ := HF.out (by omega)
              have e1 := (hbel.cell (p := ⟨g3, o3 + t, none⟩) hg3).trans (hcl3 t kl)
              have j2 : (t : Int) < (q : Int) := by omega
              have hno : Hid (¬ Au.okF n fr[t] → false = r) := fun h => hBi.out (fun e => h (e.2 _ (List.getElem_mem kl)))
              have hyes : Hid (Au.okF n fr[t] → ∀ j (h : j < fr.length), j < t + 1 → Au.okF n fr[j]) := fun h j hj hjk => by
                by_cases e : j = t
                · subst e; exact h
                · exact hS.out j hj (by omega)
              have hA : Hid (Au.okF n fr[t] ↔ 0 ≤ fr[t] ∧ fr[t] < n) := Iff.rfl
              clear hcl3 hS hbel
              generalize fr[t] = f at *
              by_cases p1 : f < 0
              · obtain rfl : false = r := hno.out (fun h => by have := hA.out.1 h; omega)
                clear hA hyes hno hst hBi HB HG HO
                go_wp2_with fail
                go_ret
                exact ⟨rfl, HBE.out⟩
              by_cases p2 : (n : Int) ≤ f
              · obtain rfl : false = r := hno.out (fun h => by have := hA.out.1 h; omega)
                clear hA hyes hno hst hBi HB HG HO
                go_wp2_with fail
                go_ret
                exact ⟨rfl, HBE.out⟩
              have H := Lib.hid (hyes.out (hA.out.2 (by omega)))
              clear hA hyes hno
              go_wp2_with fail
              go_roundg (q - (t + 1))
              case rel => exact ⟨t + 1, by omega, rfl, by go_num, H.out, HBE.out⟩
              case measure => omega
            · obtain rfl : t = q := by omega
              have H := Lib.hid (hst.out ⟨hall.out, fun f hf => by
                obtain ⟨j, hj, rfl⟩ := List.getElem_of_mem hf
                exact hS.out j hj (by rw [HQ.out]; exact hj)⟩)
              clear hS hst hall hbel hBi
              go_wp2_with fail
              go_roundg (n - (i + 1))
              case rel => exact ⟨i + 1, by omega, rfl, by go_num, H.out, HBE.out⟩
              case measure => omega
    · obtain rfl : i = n := by omega
      have H1 := Lib.hid hS.out
      clear hS hbel HB
      by_cases h0 : i = 0
      · obtain rfl : false = r := HO.out h0
        have j0 : decide ((0 : Int) < (i : Int)) = false := decide_eq_false (by omega)
        have j0n : decide (0 < i) = false := decide_eq_false (by omega)
        clear h0 HO HG
        go_wp2_with fail
        go_ret
        exact ⟨rfl, HBE.out⟩
      · obtain rfl : true = r := HG.out (by omega) H1.out
        have j0 : decide ((0 : Int) < (i : Int)) = true := decide_eq_true (by omega)
        have j0n : decide (0 < i) = true := decide_eq_true (by omega)
        clear h0 HO HG
        go_wp2_with fail
        go_ret
        exact ⟨rfl, HBE.out⟩

theorem Au.first_eq (n : Nat) (h : 0 < n) : (List.replicate n false).set 0 true = Au.setOf n (fun i => i = 0) := by
  apply Au.set_ext (by rw [List.length_set, List.length_replicate, Au.setOf_length])
  intro i
  rw [Au.has_set (by simpa using h), Au.has_setOf]
  constructor
  · rintro (rfl | h')
    · exact ⟨h, rfl⟩
    · exact absurd h' (Au.not_has_false _ _)
  · rintro ⟨_, h⟩
    exact .inl h

theorem row_first (w : World) (n : Nat) : RowB (w.alloc (.cells ((madeCells #[.bool false] n).setIfInBounds 0 (.bool true)) 4)) w.heap.size n ((List.replicate n false).set 0 true) := by
  refine ⟨_, Go.Deep.blk_alloc_new _ _, by simp [madeCells], by simp, fun j hj => ?_⟩
  rw [List.length_set, List.length_replicate] at hj
  rw [List.getElem_set, Array.getElem?_setIfInBounds]
  by_cases e : 0 = j
  · subst e
    simp [madeCells, hj]
  · rw [if_neg e, if_neg e]
    simp [madeCells, hj, Nat.mod_one]

set_option maxRecDepth 100000 in
set_option maxHeartbeats 4000000 in
theorem takes_any (F : Nat → Prop) (w : World) (u : Value) (d : List Au.Lo) (s : ByteArray) (hs : s.size ≤ 9223372036854775806) (hu : LoS F w u d) (hmay : Au.May d) (hbig : d.length ≤ 1099511627776) :
    Calls Try.prog 8 #[u, .string s] w fun e w' => e = .returned (.bool (Au.takes d (Au.first d) (s.data.toList.map UInt8.toNat))) ∧ Below w.heap.size w w' := by
  have HU := Lib.hid hu
  have HMAY := Lib.hid hmay
  have HSP : Hid (∀ W g T, Below w.heap.size w W → RowB W g d.length T → T.length = d.length → Calls Try.prog 16 #[u, .slice (some ⟨g, 0, none⟩) d.length d.length] W fun e w' => ∃ g cap, e = .returned (.slice (some ⟨g, 0, none⟩) d.length cap) ∧ W.heap.size ≤ g ∧ cap ≤ 9223372036854775807 ∧ RowB w' g cap (Au.spread d T) ∧ Below W.heap.size W w') := fun W g T hb hr hl => by
    have h := hr.slice (by omega) (fun _ => True) trivial
    rw [hl] at h
    exact spread_any F (fun _ => True) W u _ d T (hu.below hb) h hl hmay.pos hbig hmay.free
  have HOV : Hid (∀ W g cap T, Below w.heap.size w W → RowB W g cap T → cap ≤ 9223372036854775807 → T.length = d.length → ∀ c : Nat, Calls Try.prog 17 #[u, .slice (some ⟨g, 0, none⟩) d.length cap, .int .i64 c] W fun e w' => ∃ g cap, e = .returned (.slice (some ⟨g, 0, none⟩) d.length cap) ∧ W.heap.size ≤ g ∧ cap ≤ 9223372036854775807 ∧ RowB w' g cap (Au.over d T c) ∧ Below W.heap.size W w') := fun W g cap T hb hr hc hl c => by
    have h := hr.slice hc (fun _ => True) trivial
    rw [hl] at h
    exact over_any F (fun _ => True) W u _ d T c (hu.below hb) h hl hmay hbig
  have HEN : Hid (∀ W g cap T, Below w.heap.size w W → RowB W g cap T → cap ≤ 9223372036854775807 → T.length = d.length → Calls Try.prog 18 #[u, .slice (some ⟨g, 0, none⟩) d.length cap] W fun e w' => e = .returned (.bool (Au.ends d T)) ∧ Below W.heap.size W w') := fun W g cap T hb hr hc hl => by
    have h := hr.slice hc (fun _ => True) trivial
    rw [hl] at h
    exact ends_any F (fun _ => True) W u _ d T (hu.below hb) h hl
  obtain ⟨b, cap', rfl, _, _, _⟩ := hu
  obtain ⟨n, hn⟩ : ∃ n, n = d.length := ⟨_, rfl⟩
  have hn0 : 0 < n := by have := hmay.pos; omega
  have HN := Lib.hid hn
  have hlen : s.data.toList.length = s.size := Array.length_toList
  have HL := Lib.hid hlen
  have hmk := run_make_row' (P := Try.prog) 50 4 (.bool false) 1 Try.underlying50 Try.infoBo rfl .i64 .i64 n (by omega) (by omega)
  obtain ⟨r, hr⟩ : ∃ r, Au.takes d (Au.first d) (s.data.toList.map UInt8.toNat) = r := ⟨_, rfl⟩
  have HR0 := Lib.hid (row_made w n)
  have hR1 := Lib.hid (row_first w n)
  rw [Au.first_eq n hn0] at hR1
  have hz1 := HR0.out.frozen 0
  have hc1 := HR0.out.cell (j := 0) (by simpa using hn0)
  have hB1 : Hid (Below w.heap.size w (w.alloc (.cells ((madeCells #[.bool false] n).setIfInBounds 0 (.bool true)) 4))) := (Below.refl _ _).alloc (Nat.le_refl _) _
  have j0 : (0 : Int) < (n : Int) := by omega
  have hstart : Hid (Au.takes d (Au.spread d (Au.setOf n (fun i => i = 0))) ((s.data.toList.drop 0).map UInt8.toNat) = r) := by
    show _ = _
    rw [hn, List.drop_zero]
    exact hr
  rw [← hn] at HSP HOV HEN hbig ⊢
  rw [hr]
  clear hr hmay hn hlen HU HR0
  go_enter Try.func8, Try.ntmps8
  go_wp2_with fail
  refine (HSP.out _ _ _ hB1.out hR1.out (by rw [Au.setOf_length])).mono ?_
  rintro e w2 ⟨g, cap, rfl, hgl, hcp, hrow, hb⟩
  have HB2 : Hid (Below w.heap.size w w2) := chain hB1.out hb
  have HR2 := Lib.hid hrow
  have HT2 : Hid ((Au.spread d (Au.setOf n (fun i => i = 0))).length = n) := by show _ = _; rw [Au.spread_length]; exact HN.out.symm
  generalize Au.spread d (Au.setOf n (fun i => i = 0)) = T2 at *
  clear hb hrow hmk hR1 hB1 HSP hz1 hc1
  go_wp2_with fail
  go_loopg [5, 6] s.size (fun gg vs vi wx => ∃ (i g cap : Nat) (T : List Bool), i ≤ s.size ∧ gg = s.size - i ∧ vs = .slice (some ⟨g, 0, none⟩) n cap ∧ vi = .int .i64 i ∧ cap ≤ 9223372036854775807 ∧ Hid (T.length = n) ∧ Hid (RowB wx g cap T) ∧ Hid (Au.takes d T ((s.data.toList.drop i).map UInt8.toNat) = r) ∧ Below w.heap.size w wx)
  case atStart => exact ⟨0, g, cap, T2, Nat.zero_le _, rfl, rfl, rfl, hcp, HT2, HR2, hstart, HB2.out⟩
  case round =>
    clear HB2 HR2 HT2 hstart
    obtain ⟨i, g, cap, T, hi, rfl, rfl, rfl, hcp, hT, hR, hS, hbel⟩ := hrel
    have HBE := Lib.hid hbel
    by_cases his : i < s.size
    · have j1 : (i : Int) < (s.size : Int) := by omega
      have hst : Hid (Au.takes d (Au.over d T s[i].toNat) ((s.data.toList.drop (i + 1)).map UInt8.toNat) = r) := by
        have h := hS.out
        rw [List.drop_eq_getElem_cons (by rw [HL.out]; exact his), List.map_cons] at h
        exact h
      have hQ := Lib.hid (HOV.out wr g cap T hbel hR.out hcp hT.out s[i].toNat)
      have hby : s[i].toNat < 256 := s[i].toNat_lt
      have hwr : wrap64 ((s[i].toNat : Nat) : Int) = ((s[i].toNat : Nat) : Int) := IntWalk.wrap64_in _ (by omega)
      have hT2 : Hid ((Au.over d T s[i].toNat).length = n) := by show _ = _; rw [Au.over_length]; exact HN.out.symm
      clear hS hbel
      go_wp2_with fail
      refine hQ.out.mono ?_
      rintro e w3 ⟨g3, cap3, rfl, hg3, hcp3, hrow, hb⟩
      have HB3 : Hid (Below w.heap.size w w3) := chain HBE.out hb
      have HR3 := Lib.hid hrow
      clear hb hrow
      go_wp2_with fail
      go_roundg (s.size - (i + 1))
      case rel => exact ⟨i + 1, g3, cap3, _, by omega, rfl, rfl, by go_num, hcp3, hT2, HR3, hst, HB3.out⟩
      case measure => omega
    · obtain rfl : i = s.size := by omega
      have hfin : Au.ends d T = r := by
        have h := hS.out
        rw [List.drop_of_length_le (by rw [HL.out]; exact Nat.le_refl _)] at h
        exact h
      have hQ := Lib.hid (HEN.out wr g cap T hbel hR.out hcp hT.out)
      rw [hfin] at hQ
      clear hfin hS hbel
      go_wp2_with fail
      refine hQ.out.mono ?_
      rintro e w3 ⟨rfl, hb⟩
      have HB3 : Hid (Below w.heap.size w w3) := chain HBE.out hb
      clear hb
      go_wp2_with fail
      go_ret
      exact ⟨rfl, HB3.out⟩

end Go.Proofs.Ytpoeklgoepjikaa

/-
  Sets that a call has met, in memory; the rest of what it holds stays.
-/
namespace Go.Proofs.Ytpoeklgoepjikaa
open Go.RowKit

/-- What does not touch arcs, states and numbers leaves the state at hand as it is. -/
theorem Inn.other {w w' : World} {B bs : Nat} {vm vo va : Value} {met : List Nat} {L : List (Bool × Value)} {out : List Au.St} {fin : Bool} {arcs : List Au.Arc} (h : Inn w B bs vm vo va met L out fin arcs)
    (e : ∀ g c t fz, g < w.heap.size → w.heap[g]? = some (.cells c t fz) → (t = 44 ∨ t = 64 ∨ t = 3) → w'.heap[g]? = w.heap[g]?) : Inn w' B bs vm vo va met L out fin arcs := by
  refine ⟨h.met.keep2 fun k hv hk => ?_, h.outs.keep2 fun k hv hk => ?_, h.told.keep (fun _ hg => .inl hg) fun g hg ⟨c, fz, hc⟩ _ => e g c _ fz hg hc (.inl rfl), h.arcs.keep fun k hk => ?_, ?_, h.ne, h.lo⟩
  · obtain ⟨c, fz, hc⟩ := h.met.kind k hv
    exact e k c _ fz hk hc (.inr (.inr rfl))
  · obtain ⟨c, fz, hc⟩ := h.outs.kind k hv
    exact e k c _ fz hk hc (.inr (.inl rfl))
  · obtain ⟨c, fz, hc⟩ := h.arcs.kind k hk
    exact e k c _ fz (h.arcs.lt k hk).2 hc (.inl rfl)
  · exact (e bs _ _ _ (Array.getElem?_eq_some_iff.1 h.row).1 h.row (.inr (.inl rfl))).trans h.row
theorem Outr.other {w w' : World} {B : Nat} {vm vo : Value} {met : List Nat} {L : List (Bool × Value)} {out : List Au.St} (h : Outr w B vm vo met L out)
    (e : ∀ g c t fz, g < w.heap.size → w.heap[g]? = some (.cells c t fz) → (t = 44 ∨ t = 64 ∨ t = 3) → w'.heap[g]? = w.heap[g]?) : Outr w' B vm vo met L out := by
  refine ⟨h.met.keep2 fun k hv hk => ?_, h.outs.keep2 fun k hv hk => ?_, h.told.keep (fun _ hg => .inl hg) fun g hg ⟨c, fz, hc⟩ _ => e g c _ fz hg hc (.inl rfl)⟩
  · obtain ⟨c, fz, hc⟩ := h.met.kind k hv
    exact e k c _ fz hk hc (.inr (.inr rfl))
  · obtain ⟨c, fz, hc⟩ := h.outs.kind k hv
    exact e k c _ fz hk hc (.inr (.inl rfl))
/-- What growing the arcs leaves. -/
theorem Inn.grown_far {w w' : World} {B bs : Nat} {vm vo va va' : Value} {met : List Nat} {L : List (Bool × Value)} {out : List Au.St} {fin : Bool} {arcs : List Au.Arc} (h : Inn w B bs vm vo va met L out fin arcs) (h2 : Ap.Two w w' va va') (u : Value) :
    ∀ g c t fz, g < w.heap.size → w.heap[g]? = some (.cells c t fz) → t ≠ 44 → t ≠ 64 → (w'.setCell ⟨bs, 1, none⟩ u).heap[g]? = w.heap[g]? := fun g c t fz hg hc h3 h4 => by
  rw [heap_other _ _ _ _ _ (kinds_ne hc h.row h4)]
  exact h2.far hg fun e => by
    obtain ⟨c', fz', hc'⟩ := h.arcs.kind g e
    exact kinds_ne hc hc' h3 rfl
/-- What telling a state leaves. -/
theorem Inn.close_far {w w' : World} {B bs : Nat} {vm vo vo' va : Value} {met : List Nat} {L : List (Bool × Value)} {out : List Au.St} {fin : Bool} {arcs : List Au.Arc} (h : Inn w B bs vm vo va met L out fin arcs) (h2 : Ap.Two w w' vo vo') :
    ∀ g c t fz, g < w.heap.size → w.heap[g]? = some (.cells c t fz) → t ≠ 64 → w'.heap[g]? = w.heap[g]? := fun g c t fz hg hc h3 => h2.far hg fun e => by
  obtain ⟨c', fz', hc'⟩ := h.outs.kind g e
  exact kinds_ne hc hc' h3 rfl

/-- The sets that were met: a list of the call's own, each set in a row of its own. -/
structure SetsO (w : World) (B : Nat) (vs : Value) (vals : List Value) (L : List (List Bool)) (n : Nat) : Prop where
  own : w.ownsRow B 50 1 vs vals.length vals
  len : vals.length = L.length
  each : ∀ j (h : j < vals.length) (h' : j < L.length), L[j].length = n ∧ ∃ g cap, vals[j] = .slice (some ⟨g, 0, none⟩) n cap ∧ B ≤ g ∧ cap ≤ 9223372036854775807 ∧ RowB w g cap L[j]
theorem SetsO.kind {w : World} {B : Nat} {vs : Value} {vals : List Value} {L : List (List Bool)} {n : Nat} (h : SetsO w B vs vals L n) : ∀ g, vs.ownBlock = some g → g < w.heap.size ∧ B ≤ g ∧ ∃ c fz, w.heap[g]? = some (.cells c 50 fz) := by
  intro g hv
  refine ⟨(World.ownsRow.lt h.own g hv).2, (World.ownsRow.lt h.own g hv).1, ?_⟩
  rcases h.own.2 with ⟨h1, _⟩ | ⟨g', cap, cur, h1, hg, hh, _⟩
  · rw [h1] at hv; cases hv
  · rw [h1] at hv
    obtain rfl : g' = g := by simpa [Value.ownBlock] using hv
    exact ⟨_, _, hh⟩
theorem SetsO.other {w w' : World} {B : Nat} {vs : Value} {vals : List Value} {L : List (List Bool)} {n : Nat} (h : SetsO w B vs vals L n) (e : ∀ g c t fz, g < w.heap.size → w.heap[g]? = some (.cells c t fz) → (t = 4 ∨ t = 50) → w'.heap[g]? = w.heap[g]?) : SetsO w' B vs vals L n := by
  refine ⟨ownsRow_keep h.own fun k hk => ?_, h.len, fun j hj hj' => ?_⟩
  · obtain ⟨h1, _, c, fz, hc⟩ := h.kind k hk
    exact e k c _ fz h1 hc (.inr rfl)
  · obtain ⟨h0, g, cap, h1, h2, h3, h4⟩ := h.each j hj hj'
    obtain ⟨cur, hc, _⟩ := id h4
    exact ⟨h0, g, cap, h1, h2, h3, h4.other (e g cur _ _ h4.lt hc (.inl rfl))⟩
theorem SetsO.below {w w' : World} {B : Nat} {vs : Value} {vals : List Value} {L : List (List Bool)} {n : Nat} (h : SetsO w B vs vals L n) (hb : Below w.heap.size w w') : SetsO w' B vs vals L n := h.other fun g _ _ _ hg _ _ => hb.block g hg
theorem Inn.belowAll {w w' : World} {B bs : Nat} {vm vo va : Value} {met : List Nat} {L : List (Bool × Value)} {out : List Au.St} {fin : Bool} {arcs : List Au.Arc} (h : Inn w B bs vm vo va met L out fin arcs) (hb : Below w.heap.size w w') : Inn w' B bs vm vo va met L out fin arcs := h.below hb
theorem Outr.below {w w' : World} {B : Nat} {vm vo : Value} {met : List Nat} {L : List (Bool × Value)} {out : List Au.St} (h : Outr w B vm vo met L out) (hb : Below w.heap.size w w') : Outr w' B vm vo met L out := h.other fun g _ _ _ hg _ _ => hb.block g hg
/-- A set more, and the state at hand; the state grown, and the sets; the state told, and the sets. -/
theorem Inn.pushed {w w' : World} {B bs n : Nat} {vm vo va vs vs' : Value} {met : List Nat} {L : List (Bool × Value)} {out : List Au.St} {fin : Bool} {arcs : List Au.Arc} {vals : List Value} {m : List (List Bool)} (h : Inn w B bs vm vo va met L out fin arcs) (hs : SetsO w B vs vals m n) (h2 : Ap.Two w w' vs vs') : Inn w' B bs vm vo va met L out fin arcs := h.other fun g c t fz hg hc ht => h2.far hg fun e => by
  obtain ⟨_, _, c', fz', hc'⟩ := hs.kind g e
  exact kinds_ne hc hc' (by rcases ht with rfl | rfl | rfl <;> decide) rfl
theorem SetsO.grown {w w' : World} {B bs n : Nat} {vm vo va va' vs u : Value} {met : List Nat} {L : List (Bool × Value)} {out : List Au.St} {fin : Bool} {arcs : List Au.Arc} {vals : List Value} {m : List (List Bool)} (hs : SetsO w B vs vals m n) (h : Inn w B bs vm vo va met L out fin arcs) (h2 : Ap.Two w w' va va') : SetsO (w'.setCell ⟨bs, 1, none⟩ u) B vs vals m n := hs.other fun g c t fz hg hc ht => h.grown_far h2 u g c t fz hg hc (by rcases ht with rfl | rfl <;> decide) (by rcases ht with rfl | rfl <;> decide)
theorem SetsO.closed {w w' : World} {B bs n : Nat} {vm vo vo' va vs : Value} {met : List Nat} {L : List (Bool × Value)} {out : List Au.St} {fin : Bool} {arcs : List Au.Arc} {vals : List Value} {m : List (List Bool)} (hs : SetsO w B vs vals m n) (h : Inn w B bs vm vo va met L out fin arcs) (h2 : Ap.Two w w' vo vo') : SetsO w' B vs vals m n := hs.other fun g c t fz hg hc ht => h.close_far h2 g c t fz hg hc (by rcases ht with rfl | rfl <;> decide)
/-- As a slice of sets. -/
theorem SetsO.sets {w : World} {B : Nat} {vs : Value} {vals : List Value} {L : List (List Bool)} {n : Nat} (h : SetsO w B vs vals L n) : SetsS (fun _ => True) w vs L := by
  rcases h.own.2 with ⟨rfl, h0⟩ | ⟨g, cap, cur, rfl, hg, hh, hnc, hcp, hcs, htake⟩
  · exact ⟨none, 0, by rw [← h.len, h0], by rw [← h.len, h0]; exact Nat.le_refl _, by omega, fun h1 => by have := h.len; omega⟩
  · have hl := h.len
    have hown : w.ownsRow B 50 1 (.slice (some ⟨g, 0, none⟩) vals.length cap) vals.length vals := h.own
    unfold maxLen at hcp
    rw [hl] at hnc ⊢
    refine ⟨_, cap, rfl, hnc, by omega, fun h0 => ⟨g, 0, rfl, (hown.lt g rfl).2, trivial, fun j hj => ?_⟩⟩
    obtain ⟨hn, g', cap', h1, h2, h3, h4⟩ := h.each j (by omega) hj
    refine ⟨vals[j], ?_, ?_⟩
    · rw [Nat.zero_add, hown.cellAt j (by omega), List.getElem?_eq_getElem (by omega)]
    · rw [h1]
      have := h4.slice h3 (fun _ => True) trivial
      rwa [hn] at this
theorem SetsO.form {w : World} {B : Nat} {vs : Value} {vals : List Value} {L : List (List Bool)} {n : Nat} (h : SetsO w B vs vals L n) (h0 : 0 < L.length) : ∃ g cap, vs = .slice (some ⟨g, 0, none⟩) L.length cap ∧ g < w.heap.size ∧ ∀ j (_ : j < L.length), ∃ g' cap', w.cell? ⟨g, j, none⟩ = some (.slice (some ⟨g', 0, none⟩) n cap') ∧ cap' ≤ 9223372036854775807 ∧ RowB w g' cap' L[j] ∧ L[j].length = n := by
  rcases h.own.2 with ⟨_, h1⟩ | ⟨g, cap, cur, rfl, hg, hh, hnc, hcp, hcs, htake⟩
  · have := h.len; omega
  · have hl := h.len
    have hown : w.ownsRow B 50 1 (.slice (some ⟨g, 0, none⟩) vals.length cap) vals.length vals := h.own
    refine ⟨g, cap, by rw [hl], (hown.lt g rfl).2, fun j hj => ?_⟩
    obtain ⟨hn, g', cap', h1, h2, h3, h4⟩ := h.each j (by omega) hj
    refine ⟨g', cap', ?_, h3, h4, hn⟩
    rw [hown.cellAt j (by omega), List.getElem?_eq_getElem (by omega), h1]
theorem new_slice (w : World) (a : Option Addr) (m c : Nat) : ∀ j u, [Value.slice a m c][j]? = some u → (w.alloc (.cells #[.slice a m c] 50)).cell? ((⟨w.heap.size, 0, none⟩ : Addr).add j) = some u := by
  intro j u hj
  match j, hj with
  | 0, hj => simp at hj; subst hj; simp [Addr.add]
namespace Au
/-- What Tight answers: its refusal, its states. -/
noncomputable def tightE (d : List Lo) (most : Int) : Int := if may d = true then (match tight d most with | none => 8 | some _ => 0) else 3
noncomputable def tightL (d : List Lo) (most : Int) : List St := if may d = true then (match tight d most with | none => [] | some a => a) else []
theorem tight_out_bad {d : List Lo} {most : Int} (h : ¬ may d = true) : tightE d most = 3 ∧ tightL d most = [] := ⟨by unfold tightE; rw [if_neg h], by unfold tightL; rw [if_neg h]⟩
theorem tight_out_none {d : List Lo} {most : Int} (h : may d = true) (h2 : tight d most = none) : tightE d most = 8 ∧ tightL d most = [] := ⟨by unfold tightE; rw [if_pos h, h2], by unfold tightL; rw [if_pos h, h2]⟩
theorem tight_out_some {d : List Lo} {most : Int} {a : List St} (h : may d = true) (h2 : tight d most = some a) : tightE d most = 0 ∧ tightL d most = a := ⟨by unfold tightE; rw [if_pos h, h2], by unfold tightL; rw [if_pos h, h2]⟩
theorem tight_outs {d : List Lo} {most : Int} (h : may d = true) : (tight d most = none → tightE d most = 8 ∧ tightL d most = []) ∧ (∀ a, tight d most = some a → tightE d most = 0 ∧ tightL d most = a) := by
  constructor
  · intro h2
    exact tight_out_none h h2
  · intro a h2
    exact tight_out_some h h2
end Au
theorem StS.nil (F : Nat → Prop) (w : World) : StS F w (.slice none 0 0) [] := ⟨none, 0, rfl, Nat.le_refl _, by omega, fun h => by simp at h⟩
end Go.Proofs.Ytpoeklgoepjikaa

/-
  Maps of the call's own, of any keys and any elements; lists of the call's own, each in a block of its own colour.
-/
namespace Go.Proofs.Ytpoeklgoepjikaa
open Go.RowKit Go.Maps

/-! ### maps -/
/-- An element reads as itself. -/
def rV (v : Value) : Option (DataW Value × List MemPlace) := some (.held v, [])
/-- Block b holds a map; F says what stands at which key. -/
def MapG (k : TypeId) (w : World) (b n : Nat) (F : Lit → Option Value) : Prop :=
  ∃ D : DataW Value, w.ownsMap Try.prog k rV b n D ∧ ∀ kl z, WideAt.IsKeyLit kl → has D kl = (F kl).isSome ∧ D.atKey kl (.held z) = .held ((F kl).getD z)
theorem MapG.lt {k : TypeId} {w : World} {b n : Nat} {F : Lit → Option Value} (h : MapG k w b n F) : b < w.heap.size := by
  obtain ⟨D, h, _⟩ := h
  exact h.lt
theorem MapG.keep {k : TypeId} {w w' : World} {b n : Nat} {F : Lit → Option Value} (h : MapG k w b n F) (e : w'.heap[b]? = w.heap[b]?) : MapG k w' b n F := by
  obtain ⟨D, ⟨es, clock, hb, hr⟩, hs⟩ := h
  exact ⟨D, ⟨es, clock, e.trans hb, hr⟩, hs⟩
theorem MapG.mono {k : TypeId} {w : World} {b n n' : Nat} {F : Lit → Option Value} (h : MapG k w b n F) (hn : n ≤ n') : MapG k w b n' F := by
  obtain ⟨D, h, hs⟩ := h
  exact ⟨D, h.mono hn, hs⟩
theorem MapG.congr {k : TypeId} {w : World} {b n : Nat} {F G : Lit → Option Value} (h : MapG k w b n F) (e : ∀ kl, WideAt.IsKeyLit kl → F kl = G kl) : MapG k w b n G := by
  obtain ⟨D, h, hs⟩ := h
  exact ⟨D, h, fun kl z hk => by rw [← e kl hk]; exact hs kl z hk⟩
theorem mapG_made (k : TypeId) (w : World) : MapG k (w.alloc (.map #[] 0)) w.heap.size 0 (fun _ => none) := ⟨.map [], World.ownsMap_made w _ _ _, fun _ _ _ => ⟨rfl, rfl⟩⟩
theorem MapG.kind {k : TypeId} {w : World} {b n : Nat} {F : Lit → Option Value} (h : MapG k w b n F) : ∀ c t fz, w.heap[b]? ≠ some (.cells c t fz) := by
  obtain ⟨D, ⟨es, clock, hb, _⟩, _⟩ := h
  intro c t fz e
  rw [hb] at e
  cases e
open Classical in
noncomputable def updG (F : Lit → Option Value) (s : Lit) (o : Option Value) : Lit → Option Value := fun t => if t = s then o else F t
theorem updG_same (F : Lit → Option Value) (s : Lit) (o : Option Value) : updG F s o s = o := by unfold updG; rw [if_pos rfl]
theorem updG_other (F : Lit → Option Value) (s t : Lit) (o : Option Value) (h : t ≠ s) : updG F s o t = F t := by unfold updG; rw [if_neg h]

section
variable (w : World) {ops : Array Oper} {rest : List Oper} {o : Oper} {a : Act} {Q : Exit → Act → World → Prop}
/-- 'm[key]'. -/
theorem wpList_lookG (hg : o.guard = none) (m x : Operand) (t k e : TypeId) (hop : o.op = Op.lookup t m x false) (K : Keyed Try.prog k) (ht : Try.prog.underlying t = some (.map k e)) (z : Value) (hz : ∀ w, (zeroValue e).run Try.prog w = .ok z w)
    (b n : Nat) (F : Lit → Option Value) (hm : a.eval m = .map (some b)) (hM : MapG k w b n F) (key : Value) (kl : Lit) (hx : a.eval x = key) (hkey : keyOf Try.prog k key = some kl)
    (hK : wpList Try.prog ops Q rest (a.put o.dst ((F kl).getD z)) w) : wpList Try.prog ops Q (o :: rest) a w := by
  obtain ⟨D, hown, hF⟩ := hM
  refine wpList_plain hg fun K' hK' => ?_
  obtain ⟨v, ps, hrun, hv⟩ := hown.lookup K ht (hz w) (zd := .held z) (zp := []) rfl hkey
  have e : v = (F kl).getD z := by
    rw [(hF kl z (K.key hkey)).2] at hv
    unfold rV at hv
    simp only [Option.some.injEq, Prod.mk.injEq, DataW.held.injEq] at hv
    exact hv.1
  subst e
  unfold Oper.wp
  simp [execOp, hop, hm, hx, hrun, Result.andThen]
  exact hK' _ _ hK
/-- 'v, ok := m[key]'. -/
theorem wpList_lookOkG (hg : o.guard = none) (m x : Operand) (t k e : TypeId) (hop : o.op = Op.lookup t m x true) (K : Keyed Try.prog k) (ht : Try.prog.underlying t = some (.map k e)) (z : Value) (hz : ∀ w, (zeroValue e).run Try.prog w = .ok z w)
    (b n : Nat) (F : Lit → Option Value) (hm : a.eval m = .map (some b)) (hM : MapG k w b n F) (key : Value) (kl : Lit) (hx : a.eval x = key) (hkey : keyOf Try.prog k key = some kl)
    (hK : wpList Try.prog ops Q rest (a.put o.dst (.tuple #[(F kl).getD z, .bool (F kl).isSome])) w) : wpList Try.prog ops Q (o :: rest) a w := by
  obtain ⟨D, hown, hF⟩ := hM
  refine wpList_lookup_own_ok w hg m x t hop k e K ht rV (hz w) (.held z) [] rfl b n D hm hown key kl hx hkey fun v ps hv => ?_
  obtain ⟨h1, h2⟩ := hF kl z (K.key hkey)
  rw [h2] at hv
  unfold rV at hv
  simp only [Option.some.injEq, Prod.mk.injEq, DataW.held.injEq] at hv
  rw [hv.1, h1]
  exact hK
/-- 'm[key] = v'. -/
theorem wpList_storeG (hg : o.guard = none) (m x v : Operand) (t k e : TypeId) (hop : o.op = Op.mapUpdate t m x v) (K : Keyed Try.prog k) (ht : Try.prog.underlying t = some (.map k e))
    (b n : Nat) (F : Lit → Option Value) (hm : a.eval m = .map (some b)) (hM : MapG k w b n F) (hn : n < maxLen) (key : Value) (kl : Lit) (hx : a.eval x = key) (hkey : keyOf Try.prog k key = some kl) (u : Value) (hv : a.eval v = u)
    (hK : ∀ w', MapG k w' b (n + 1) (updG F kl (some u)) → w.grownBy w' (some b) → wpList Try.prog ops Q rest (a.put o.dst undef) w') : wpList Try.prog ops Q (o :: rest) a w := by
  obtain ⟨D, hown, hF⟩ := hM
  refine wpList_mapUpdate_own w hg m x v t hop k e K ht rV b n D hm hown hn key u kl hx hv hkey (.held u) [] rfl fun w' h1 h2 => ?_
  refine hK w' ⟨_, h1, fun l z hl => ?_⟩ h2
  by_cases e : l = kl
  · subst e
    rw [updG_same]
    exact ⟨has_put_same hown.isMap hl _, atKey_put_same hown.isMap hl _ _⟩
  · rw [updG_other _ _ _ _ e, has_put_other e, atKey_put_other e]
    exact hF l z hl
end

/-! ### colours -/
/-- Blocks from s on bear colour c, those below are as they were. -/
def paint (κ : Nat → Nat) (s c : Nat) : Nat → Nat := fun k => if k < s then κ k else c
/-- Nothing has turned but what bears colour c; and what is new bears it. -/
structure Step (κ : Nat → Nat) (c : Nat) (w w' : World) (κ' : Nat → Nat) : Prop where
  os : w'.os = w.os
  tape : w'.tape = w.tape
  output : w'.output = w.output
  size : w.heap.size ≤ w'.heap.size
  block : ∀ k, k < w.heap.size → κ k ≠ c → w'.heap[k]? = w.heap[k]?
  col : ∀ k, k < w.heap.size → κ' k = κ k
theorem Step.of_two {κ : Nat → Nat} {c : Nat} {w w' : World} {v v' : Value} (h : Ap.Two w w' v v') (hv : ∀ b, v.ownBlock = some b → κ b = c) : Step κ c w w' (paint κ w.heap.size c) := by
  obtain ⟨h1, h2, h3⟩ := h.rest
  exact ⟨h1, h2, h3, h.size, fun k hk hc => h.far hk fun e => hc (hv k e), fun k hk => by unfold paint; rw [if_pos hk]⟩
theorem Step.of_set {κ : Nat → Nat} {c : Nat} (w : World) (b i : Nat) (v : Value) (hb : κ b = c) : Step κ c w (w.setCell ⟨b, i, none⟩ v) κ :=
  ⟨rfl, rfl, rfl, by simp [World.setCell], fun k _ hc => heap_other _ _ _ _ _ (fun e => hc (e ▸ hb)), fun _ _ => rfl⟩
theorem Step.of_grown {κ : Nat → Nat} {c : Nat} {w w' : World} {b : Nat} (h : w.grownBy w' (some b)) (hb : κ b = c) : Step κ c w w' (paint κ w.heap.size c) :=
  ⟨h.os, h.tape, h.output, h.size, fun k hk hc => h.block k hk (fun e => hc (by cases e; exact hb)), fun k hk => by unfold paint; rw [if_pos hk]⟩
theorem Step.of_below {κ : Nat → Nat} {c : Nat} {w w' : World} (h : Below w.heap.size w w') : Step κ c w w' (paint κ w.heap.size c) :=
  ⟨h.os, h.tape, h.output, h.size, fun k hk _ => h.block k hk, fun k hk => by unfold paint; rw [if_pos hk]⟩
theorem Step.of_alloc {κ : Nat → Nat} {c : Nat} (w : World) (o : Obj) : Step κ c w (w.alloc o) (paint κ w.heap.size c) :=
  ⟨rfl, rfl, rfl, by simp, fun k hk _ => Go.Deep.blk_alloc_lt w _ _ hk, fun k hk => by unfold paint; rw [if_pos hk]⟩
theorem paint_new (κ : Nat → Nat) (s c k : Nat) (h : s ≤ k) : paint κ s c k = c := by unfold paint; rw [if_neg (by omega)]
theorem paint_old (κ : Nat → Nat) (s c k : Nat) (h : k < s) : paint κ s c k = κ k := by unfold paint; rw [if_pos h]
/-- Where v' lies behind an append onto v. -/
theorem Two.col {κ : Nat → Nat} {c : Nat} {w w' : World} {v v' : Value} (h : Ap.Two w w' v v') (hl : ∀ b, v.ownBlock = some b → b < w.heap.size ∧ κ b = c) : ∀ b, v'.ownBlock = some b → paint κ w.heap.size c b = c := by
  intro b hb
  rcases h.at hb with h1 | h1
  · rw [paint_old _ _ _ _ (hl b h1).1]
    exact (hl b h1).2
  · exact paint_new _ _ _ _ h1
/-- Coloured blocks lie from B on. -/
def LoB (κ : Nat → Nat) (w : World) (B : Nat) : Prop := ∀ k, k < w.heap.size → κ k ≠ 0 → B ≤ k
theorem LoB.step {κ κ' : Nat → Nat} {c : Nat} {w w' : World} {B : Nat} (h : LoB κ w B) (hs : Step κ c w w' κ') (hB : B ≤ w.heap.size) : LoB κ' w' B := by
  intro k hk hc
  by_cases h1 : k < w.heap.size
  · rw [hs.col k h1] at hc
    exact h k h1 hc
  · omega
theorem Step.below {κ κ' : Nat → Nat} {c : Nat} {w0 w w' : World} {B : Nat} (hs : Step κ c w w' κ') (h : LoB κ w B) (hc : c ≠ 0) (hb : Below B w0 w) (hB : B ≤ w.heap.size) : Below B w0 w' :=
  hb.trans ⟨hs.os, hs.tape, hs.output, hs.size, fun k hk => hs.block k (by omega) fun e => by have := h k (by omega) (by omega); omega⟩
/-- A list of the call's own, in a block of colour c. -/
structure RowC (κ : Nat → Nat) (c : Nat) (w : World) (e : TypeId) (z : Nat) (v : Value) (n : Nat) (xs : List Value) : Prop where
  own : w.ownsRow 0 e z v n xs
  col : ∀ b, v.ownBlock = some b → κ b = c
theorem RowC.lt {κ : Nat → Nat} {c : Nat} {w : World} {e : TypeId} {z : Nat} {v : Value} {n : Nat} {xs : List Value} (h : RowC κ c w e z v n xs) : ∀ b, v.ownBlock = some b → b < w.heap.size ∧ κ b = c := fun b hb => ⟨(World.ownsRow.lt h.own b hb).2, h.col b hb⟩
theorem RowC.step {κ κ' : Nat → Nat} {c c' : Nat} {w w' : World} {e : TypeId} {z : Nat} {v : Value} {n : Nat} {xs : List Value} (h : RowC κ c w e z v n xs) (hs : Step κ c' w w' κ') (hne : c ≠ c') : RowC κ' c w' e z v n xs :=
  ⟨ownsRow_keep h.own fun k hk => hs.block k (h.lt k hk).1 (by rw [(h.lt k hk).2]; exact hne), fun b hb => by rw [hs.col b (h.lt b hb).1]; exact h.col b hb⟩
theorem RowC.nil (κ : Nat → Nat) (c : Nat) (w : World) (e : TypeId) (z : Nat) : RowC κ c w e z (.slice none 0 0) 0 [] := ⟨World.ownsRow_nil w 0 e z, fun b hb => by cases hb⟩
theorem RowC.form {κ : Nat → Nat} {c : Nat} {w : World} {e : TypeId} {z : Nat} {v : Value} {n : Nat} {xs : List Value} (h : RowC κ c w e z v n xs) : ∃ a cap, v = .slice a n cap ∧ n ≤ cap ∧ cap ≤ 9223372036854775807 ∧ (0 < n → ∃ g, a = some ⟨g, 0, none⟩ ∧ g < w.heap.size ∧ κ g = c ∧ (∀ j, w.frozen? ⟨g, j, none⟩ = false) ∧ ∀ (j : Nat) (u : Value), xs[j]? = some u → w.cell? ⟨g, j, none⟩ = some u) := by
  have hown := h.own
  rcases h.own.2 with ⟨rfl, h0⟩ | ⟨g, cap, cur, rfl, hg, hh, hnc, hcp, hcs, htake⟩
  · exact ⟨none, 0, by rw [h0], by omega, by omega, fun h => by omega⟩
  · refine ⟨_, cap, rfl, hnc, by unfold maxLen at hcp; omega, fun _ => ⟨g, rfl, (hown.lt g rfl).2, h.col g rfl, fun j => by simp [World.frozen?, hh], fun j u hu => ?_⟩⟩
    have hj : j < n * z := by rw [← hown.1]; exact (List.getElem?_eq_some_iff.1 hu).1
    rw [hown.cellAt j hj]
    exact hu
/-- Its cells. -/
theorem RowC.at {κ : Nat → Nat} {c : Nat} {w : World} {e : TypeId} {z n g cap : Nat} {xs : List Value} (h : RowC κ c w e z (.slice (some ⟨g, 0, none⟩) n cap) n xs) :
    g < w.heap.size ∧ κ g = c ∧ n ≤ cap ∧ cap ≤ 9223372036854775807 ∧ (∀ j, w.frozen? ⟨g, j, none⟩ = false) ∧ ∀ (j : Nat) (u : Value), xs[j]? = some u → w.cell? ⟨g, j, none⟩ = some u := by
  have hown := h.own
  rcases h.own.2 with ⟨h1, h0⟩ | ⟨g', cap', cur, h1, hg, hh, hnc, hcp, hcs, htake⟩
  · cases h1
  · simp only [Value.slice.injEq, Option.some.injEq, Addr.mk.injEq, and_true, true_and] at h1
    obtain ⟨rfl, rfl⟩ := h1
    refine ⟨(hown.lt g rfl).2, h.col g rfl, hnc, by unfold maxLen at hcp; omega, fun j => by simp [World.frozen?, hh], fun j u hu => ?_⟩
    have hj : j < n * z := by rw [← hown.1]; exact (List.getElem?_eq_some_iff.1 hu).1
    rw [hown.cellAt j hj]
    exact hu
/-- A store into it. -/
theorem RowC.set {κ : Nat → Nat} {c : Nat} {w : World} {e : TypeId} {z n g cap : Nat} {xs : List Value} (h : RowC κ c w e z (.slice (some ⟨g, 0, none⟩) n cap) n xs) (i : Nat) (u : Value) : RowC κ c (w.setCell ⟨g, i, none⟩ u) e z (.slice (some ⟨g, 0, none⟩) n cap) n (xs.set i u) :=
  ⟨(h.own.stored i u).1, h.col⟩
/-- Less of it. -/
theorem RowC.less {κ : Nat → Nat} {c : Nat} {w : World} {e : TypeId} {z n g cap : Nat} {xs : List Value} (h : RowC κ c w e z (.slice (some ⟨g, 0, none⟩) n cap) n xs) (m : Nat) (hm : m ≤ n) : RowC κ c w e z (.slice (some ⟨g, 0, none⟩) m cap) m (xs.take (m * z)) := by
  refine ⟨⟨?_, ?_⟩, h.col⟩
  · rw [List.length_take, h.own.1]
    have := Nat.mul_le_mul_right z hm
    omega
  · rcases h.own.2 with ⟨h1, _⟩ | ⟨g', cap', cur, h1, hg, hh, hnc, hcp, hcs, htake⟩
    · cases h1
    · simp only [Value.slice.injEq, Option.some.injEq, Addr.mk.injEq, and_true, true_and] at h1
      obtain ⟨rfl, rfl⟩ := h1
      refine .inr ⟨g, cap, cur, rfl, hg, hh, by omega, hcp, hcs, ?_⟩
      rw [← htake, List.take_take]
      have := Nat.mul_le_mul_right z hm
      rw [Nat.min_eq_left this]
theorem RowC.kind {κ : Nat → Nat} {c : Nat} {w : World} {e : TypeId} {z : Nat} {v : Value} {n : Nat} {xs : List Value} (h : RowC κ c w e z v n xs) : ∀ g, v.ownBlock = some g → ∃ cs fz, w.heap[g]? = some (.cells cs e fz) := by
  intro g hv
  rcases h.own.2 with ⟨h1, _⟩ | ⟨g', cap, cur, h1, hg, hh, _⟩
  · rw [h1] at hv; cases hv
  · rw [h1] at hv
    obtain rfl : g' = g := by simpa [Value.ownBlock] using hv
    exact ⟨_, _, hh⟩
theorem new_cells (w : World) (cs : List Value) (e : TypeId) : ∀ j u, cs[j]? = some u → (w.alloc (.cells cs.toArray e)).cell? ((⟨w.heap.size, 0, none⟩ : Addr).add j) = some u := by
  intro j u hj
  have h1 : (w.alloc (.cells cs.toArray e)).heap[w.heap.size]? = some (.cells cs.toArray e (0, 0)) := Go.Deep.blk_alloc_new _ _
  rw [Addr.add_lit, Nat.zero_add]
  simp only [World.cell?, h1]
  simp [hj]
theorem Step.trans {κ κ1 κ2 : Nat → Nat} {c : Nat} {w w1 w2 : World} (h : Step κ c w w1 κ1) (k : Step κ1 c w1 w2 κ2) : Step κ c w w2 κ2 :=
  ⟨k.os.trans h.os, k.tape.trans h.tape, k.output.trans h.output, Nat.le_trans h.size k.size, fun b hb hc => (k.block b (Nat.lt_of_lt_of_le hb h.size) (by rw [h.col b hb]; exact hc)).trans (h.block b hb hc), fun b hb => (k.col b (Nat.lt_of_lt_of_le hb h.size)).trans (h.col b hb)⟩
theorem Step.drew {κ κ1 : Nat → Nat} {c : Nat} {w w1 : World} (h : Step κ c w w1 κ1) : Step κ c w w1.drew κ1 := ⟨h.os, h.tape, h.output, h.size, h.block, h.col⟩
theorem RowC.drew {κ : Nat → Nat} {c : Nat} {w : World} {e : TypeId} {z : Nat} {v : Value} {n : Nat} {xs : List Value} (h : RowC κ c w e z v n xs) : RowC κ c w.drew e z v n xs := ⟨ownsRow_keep h.own fun _ _ => rfl, h.col⟩
theorem paint_paint (κ : Nat → Nat) (s t c k : Nat) (h : s ≤ t) : paint (paint κ s c) t c k = paint κ s c k := by
  unfold paint
  by_cases h1 : k < t
  · rw [if_pos h1]
  · rw [if_neg h1, if_neg (by omega)]
theorem one_of {l : List Value} (h : l.all (fun u => u.oneCell') = true) : ∀ u ∈ l, u.oneCell' = true := fun u hu => List.all_eq_true.1 h u hu
/-- What an append leaves. -/
theorem pushed {κ : Nat → Nat} {c : Nat} {w W0 w' : World} {e : TypeId} {z n g cap : Nat} {v : Value} {xs ys : List Value} (h : RowC κ c w e z v n xs) (hW : Below w.heap.size w W0)
    (h1 : w'.ownsRow 0 e z (.slice (some ⟨g, 0, none⟩) (n + 1) cap) (n + 1) ys) (h2 : W0.grownBy w' v.ownBlock) (h3 : v.ownBlock = some g ∨ g = W0.heap.size) :
    RowC (paint κ w.heap.size c) c w' e z (.slice (some ⟨g, 0, none⟩) (n + 1) cap) (n + 1) ys ∧ Step κ c w w' (paint κ w.heap.size c) := by
  have hs := hW.size
  refine ⟨⟨h1, fun b hb => ?_⟩, h2.os.trans hW.os, h2.tape.trans hW.tape, h2.output.trans hW.output, Nat.le_trans hs h2.size, fun k hk hc => ?_, fun k hk => paint_old _ _ _ _ hk⟩
  · have hg : b = g := by simpa [Value.ownBlock] using hb.symm
    subst hg
    rcases h3 with h3 | h3
    · obtain ⟨k1, k2⟩ := h.lt b h3
      rw [paint_old _ _ _ _ k1]
      exact k2
    · exact paint_new _ _ _ _ (by omega)
  · refine (h2.block k (by omega) fun e => hc (h.col k e.symm)).trans (hW.block k hk)
/-- 'append(v, x)' of one element, whose cells lie in a new block. -/
theorem wpList_pushC {ops : Array Oper} {rest : List Oper} {o : Oper} {a : Act} {Q : Exit → Act → World → Prop} {w : World} (hgd : o.guard = none) (s x : Operand) (t e : TypeId)
    (ho : o.op = .call { callee := .builtin .append, args := #[s, x], argTypes := #[t, t] }) (i : TypeInfo) (zv : Value) (z bytes : Nat) (ht : Try.prog.underlying t = some (.slice e)) (hi : Try.prog.info? e = some i) (hz : i.zero = some zv)
    (hsize : i.size = z) (hby : i.bytes = bytes) (hzs : zv.cells.size = z) (hz0 : 0 < z) (κ : Nat → Nat) (c : Nat) (v : Value) (n : Nat) (xs : List Value) (hs : a.eval s = v) (h : RowC κ c w e z v n xs) (cs : List Value) (hcs : cs.length = z) (h1 : ∀ u ∈ cs, u.oneCell' = true)
    (hx : a.eval x = .slice (some ⟨w.heap.size, 0, none⟩) 1 1) (hb : (n + 1) * bytes ≤ 140737488355328) (hb2 : n + 1 ≤ 140737488355328)
    (hk : ∀ g cap w', RowC (paint κ w.heap.size c) c w' e z (.slice (some ⟨g, 0, none⟩) (n + 1) cap) (n + 1) (xs ++ cs) → Step κ c w w' (paint κ w.heap.size c) → wpList Try.prog ops Q rest (a.put o.dst (.slice (some ⟨g, 0, none⟩) (n + 1) cap)) w') :
    wpList Try.prog ops Q (o :: rest) a (w.alloc (.cells cs.toArray e)) := by
  refine wpList_append_lies _ hgd s x t ho 0 e i zv z bytes ht hi hz hsize hby hzs hz0 v n xs hs (h.own.alloc _) ⟨w.heap.size, 0, none⟩ 1 1 cs hx (by rw [hcs, Nat.one_mul]) (new_cells w cs e) h1 (by omega) (by unfold maxLen; omega) hb (by omega) _ rfl ?_
  intro g cap w' h2 h3 h4 _
  obtain ⟨k1, k2⟩ := pushed h ((Below.refl _ _).alloc (Nat.le_refl _) _) h2 h3 h4
  exact hk g cap w' k1 k2
/-- The same at a step of a region that draws its order. -/
theorem step_pushC {ops : Array Oper} {o : Oper} {a : Act} {K : Act → World → Prop} {Q : Exit → Act → World → Prop} {E : Prop} {w W0 : World} (hgd : o.guard = none) (s x : Operand) (t e : TypeId)
    (ho : o.op = .call { callee := .builtin .append, args := #[s, x], argTypes := #[t, t] }) (i : TypeInfo) (zv : Value) (z bytes : Nat) (ht : Try.prog.underlying t = some (.slice e)) (hi : Try.prog.info? e = some i) (hz : i.zero = some zv)
    (hsize : i.size = z) (hby : i.bytes = bytes) (hzs : zv.cells.size = z) (hz0 : 0 < z) (κ : Nat → Nat) (c : Nat) (v : Value) (n : Nat) (xs : List Value) (hs : a.eval s = v) (h : RowC κ c w e z v n xs) (hW : Below w.heap.size w W0) (cs : List Value) (hcs : cs.length = z) (h1 : ∀ u ∈ cs, u.oneCell' = true)
    (ad : Addr) (hnews : ∀ j u, cs[j]? = some u → W0.cell? (ad.add j) = some u) (hx : a.eval x = .slice (some ad) 1 1) (hb : (n + 1) * bytes ≤ 140737488355328) (hb2 : n + 1 ≤ 140737488355328)
    (hk : ∀ g cap w', RowC (paint κ w.heap.size c) c w' e z (.slice (some ⟨g, 0, none⟩) (n + 1) cap) (n + 1) (xs ++ cs) → Step κ c w w' (paint κ w.heap.size c) → K (a.put o.dst (.slice (some ⟨g, 0, none⟩) (n + 1) cap)) w') :
    if Region.wanted o (yielded ops a.tmps) = true then Oper.wp Try.prog o a W0 K Q else E := by
  refine step_append_lies _ hgd s x t ho 0 e i zv z bytes ht hi hz hsize hby hzs hz0 v n xs hs (ownsRow_keep h.own fun k hk => hW.block k (h.lt k hk).1) ad 1 1 cs hx (by rw [hcs, Nat.one_mul]) hnews h1 (by omega) (by unfold maxLen; omega) hb (by omega) _ rfl ?_
  intro g cap w' h2 h3 h4 _
  obtain ⟨k1, k2⟩ := pushed h hW h2 h3 h4
  exact hk g cap w' k1 k2
end Go.Proofs.Ytpoeklgoepjikaa

/-
  Rows of arcs made lead by lead: the same as byte by byte. Walks whose states lead by stretches of bytes.
-/
namespace Go.Proofs.Ytpoeklgoepjikaa
namespace Au
variable {σ τ : Type}

/-- An arc behind others; or the last one goes on, if both lead to the same side by side. -/
def joined (l : List Arc) (lo hi k : Nat) : List Arc :=
  match l.getLast? with
  | some a => if a.to = (k : Int) ∧ a.hi + 1 = (lo : Int) then l.dropLast ++ [⟨a.lo, hi, k⟩] else l ++ [⟨lo, hi, k⟩]
  | none => [⟨lo, hi, k⟩]
theorem joined_nil (lo hi k : Nat) : joined [] lo hi k = [⟨lo, hi, k⟩] := rfl
theorem joined_snoc (r : List Arc) (a : Arc) (lo hi k : Nat) : joined (r ++ [a]) lo hi k = if a.to = (k : Int) ∧ a.hi + 1 = (lo : Int) then r ++ [⟨a.lo, hi, k⟩] else r ++ [a] ++ [⟨lo, hi, k⟩] := by
  unfold joined
  simp
theorem joined_one (l : List Arc) (lo k : Nat) : joined l lo lo k = grown l lo k := by
  rcases last_cases l with rfl | ⟨r, a, rfl⟩
  · rfl
  · rw [joined_snoc, grown_snoc]
    by_cases h : a.to = (k : Int) ∧ a.hi + 1 = (lo : Int)
    · rw [if_pos h, if_pos ⟨by omega, h.1⟩]
    · rw [if_neg h, if_neg (fun e => h ⟨e.2, by omega⟩)]
theorem grown_joined (l : List Arc) (lo hi k : Nat) : grown (joined l lo hi k) (hi + 1) k = joined l lo (hi + 1) k := by
  rcases last_cases l with rfl | ⟨r, a, rfl⟩
  · rw [joined_nil, joined_nil, show [(⟨(lo : Int), (hi : Int), (k : Int)⟩ : Arc)] = [] ++ [⟨lo, hi, k⟩] from rfl, grown_snoc, if_pos ⟨by dsimp only; omega, rfl⟩]
    rfl
  · rw [joined_snoc, joined_snoc]
    by_cases h : a.to = (k : Int) ∧ a.hi + 1 = (lo : Int)
    · rw [if_pos h, if_pos h, grown_snoc, if_pos ⟨by dsimp only; omega, rfl⟩]
    · rw [if_neg h, if_neg h, grown_snoc, if_pos ⟨by dsimp only; omega, rfl⟩]

/-- A stretch of bytes, and the state to which they lead. -/
structure Trail (σ : Type) where
  lo : Nat
  hi : Nat
  to : σ
/-- The leads of a state, from byte c on: rising; by no other byte anything is led to. -/
def Leads (W : Walk σ) (s : σ) : Nat → List (Trail σ) → Prop
  | c, [] => ∀ x, c ≤ x → x < 256 → W.go s x = none
  | c, l :: r => c ≤ l.lo ∧ l.lo ≤ l.hi ∧ l.hi < 256 ∧ (∀ x, c ≤ x → x < l.lo → W.go s x = none) ∧ (∀ x, l.lo ≤ x → x ≤ l.hi → W.go s x = some l.to) ∧ Leads W s (l.hi + 1) r
/-- One lead of a state. -/
def Walk.lead (W : Walk σ) (p : List σ × List Arc) (l : Trail σ) : List σ × List Arc :=
  (if find W.same p.1 l.to = p.1.length then p.1 ++ [l.to] else p.1, joined p.2 l.lo l.hi (find W.same p.1 l.to))
theorem bytes_skip (W : Walk σ) (s : σ) (m : List σ) (c d : Nat) (h : ∀ x, c ≤ x → x < c + d → W.go s x = none) : W.bytes s m (c + d) = W.bytes s m c := by
  induction d with
  | zero => rfl
  | succ d ih =>
    rw [← Nat.add_assoc, Walk.bytes]
    unfold Walk.byte
    rw [h (c + d) (by omega) (by omega)]
    exact ih fun x h1 h2 => h x h1 (by omega)
theorem find_self (W : Walk σ) (hr : ∀ s, W.same s s = true) (m : List σ) (t : σ) : find W.same (if find W.same m t = m.length then m ++ [t] else m) t = find W.same m t := by
  by_cases h : find W.same m t = m.length
  · rw [if_pos h, find_snoc _ hr _ _ h, h]
  · rw [if_neg h]
theorem bytes_run (W : Walk σ) (hr : ∀ s, W.same s s = true) (s t : σ) (m : List σ) (lo d : Nat) (h : ∀ x, lo ≤ x → x ≤ lo + d → W.go s x = some t) : W.bytes s m (lo + d + 1) = W.lead (W.bytes s m lo) ⟨lo, lo + d, t⟩ := by
  induction d with
  | zero =>
    rw [Nat.add_zero, Walk.bytes]
    unfold Walk.byte Walk.lead
    rw [h lo (Nat.le_refl _) (by omega)]
    dsimp only
    rw [Nat.add_zero, joined_one]
  | succ d ih =>
    have e : lo + (d + 1) + 1 = (lo + d + 1) + 1 := by omega
    rw [e, Walk.bytes, ih fun x h1 h2 => h x h1 (by omega)]
    unfold Walk.byte Walk.lead
    rw [h (lo + d + 1) (by omega) (by omega)]
    dsimp only
    rw [find_self W hr]
    have e2 : ¬ find W.same (W.bytes s m lo).1 t = (if find W.same (W.bytes s m lo).1 t = (W.bytes s m lo).1.length then (W.bytes s m lo).1 ++ [t] else (W.bytes s m lo).1).length ∨ False := by
      left
      have := find_le W.same (W.bytes s m lo).1 t
      by_cases h : find W.same (W.bytes s m lo).1 t = (W.bytes s m lo).1.length
      · rw [if_pos h, List.length_append]; simp; omega
      · rw [if_neg h]; omega
    rw [if_neg (by rcases e2 with e2 | e2; exact e2; exact e2.elim)]
    rw [show lo + (d + 1) = (lo + d) + 1 from by omega, ← grown_joined]
/-- All leads are all bytes. -/
theorem leads_bytes (W : Walk σ) (hr : ∀ s, W.same s s = true) (s : σ) (m : List σ) (L : List (Trail σ)) : ∀ c, c ≤ 256 → Leads W s c L → L.foldl W.lead (W.bytes s m c) = W.bytes s m 256 := by
  induction L with
  | nil =>
    intro c hc h
    obtain ⟨d, hd⟩ : ∃ d, 256 = c + d := ⟨256 - c, by omega⟩
    rw [hd, bytes_skip W s m c d fun x h1 h2 => h x h1 (by omega)]
    rfl
  | cons l r ih =>
    intro c hc h
    obtain ⟨h1, h2, h3, h4, h5, h6⟩ := h
    obtain ⟨d, hd⟩ : ∃ d, l.lo = c + d := ⟨l.lo - c, by omega⟩
    obtain ⟨e, he⟩ : ∃ e, l.hi = l.lo + e := ⟨l.hi - l.lo, by omega⟩
    have k1 : W.bytes s m l.lo = W.bytes s m c := by rw [hd]; exact bytes_skip W s m c d fun x g1 g2 => h4 x g1 (by omega)
    have k2 : W.bytes s m (l.hi + 1) = W.lead (W.bytes s m c) l := by
      rw [he, bytes_run W hr s l.to m l.lo e fun x g1 g2 => h5 x g1 (by omega), k1, ← he]
    rw [List.foldl_cons, ← k2]
    exact ih _ (by omega) h6
/-- A row of leads makes the walk's next row. -/
theorem leads_row (W : Walk σ) (hr : ∀ s, W.same s s = true) (s : σ) (m : List σ) (L : List (Trail σ)) (h : Leads W s 0 L) : L.foldl W.lead (m, []) = W.bytes s m 256 :=
  leads_bytes W hr s m L 0 (by omega) h
/-- The first k leads. -/
def Walk.leads (W : Walk σ) (m : List σ) (L : List (Trail σ)) (k : Nat) : List σ × List Arc := (L.take k).foldl W.lead (m, [])
theorem leads_zero (W : Walk σ) (m : List σ) (L : List (Trail σ)) : W.leads m L 0 = (m, []) := by simp [Walk.leads]
theorem leads_succ (W : Walk σ) (m : List σ) (L : List (Trail σ)) (k : Nat) (h : k < L.length) : W.leads m L (k + 1) = W.lead (W.leads m L k) L[k] := by
  unfold Walk.leads
  rw [List.take_succ_eq_append_getElem h, List.foldl_append]
  rfl
theorem leads_all (W : Walk σ) (hr : ∀ s, W.same s s = true) (s : σ) (m : List σ) (L : List (Trail σ)) (h : Leads W s 0 L) : W.leads m L L.length = W.bytes s m 256 := by
  unfold Walk.leads
  rw [List.take_length]
  exact leads_row W hr s m L h
theorem lead_grows (W : Walk σ) (p : List σ × List Arc) (l : Trail σ) : ∃ r, (W.lead p l).1 = p.1 ++ r := by
  unfold Walk.lead
  by_cases h : find W.same p.1 l.to = p.1.length
  · exact ⟨[l.to], by dsimp only; rw [if_pos h]⟩
  · exact ⟨[], by dsimp only; rw [if_neg h, List.append_nil]⟩
theorem leads_grows (W : Walk σ) (m : List σ) (L : List (Trail σ)) (k : Nat) : ∃ r, (W.leads m L k).1 = m ++ r := by
  induction k with
  | zero => exact ⟨[], by rw [leads_zero, List.append_nil]⟩
  | succ k ih =>
    by_cases h : k < L.length
    · obtain ⟨r, hr⟩ := ih
      obtain ⟨t, ht⟩ := lead_grows W (W.leads m L k) L[k]
      exact ⟨r ++ t, by rw [leads_succ W m L k h, ht, hr, List.append_assoc]⟩
    · have e : W.leads m L (k + 1) = W.leads m L k := by
        unfold Walk.leads
        rw [List.take_of_length_le (by omega), List.take_of_length_le (by omega)]
      rw [e]; exact ih
theorem lead_arcs (W : Walk σ) (p : List σ × List Arc) (l : Trail σ) : (W.lead p l).2.length ≤ p.2.length + 1 := by
  show (joined p.2 l.lo l.hi _).length ≤ _
  rcases last_cases p.2 with h | ⟨r, a, h⟩
  · rw [h, joined_nil]; simp
  · rw [h, joined_snoc]
    split <;> simp
theorem leads_arcs (W : Walk σ) (m : List σ) (L : List (Trail σ)) (k : Nat) : (W.leads m L k).2.length ≤ k := by
  induction k with
  | zero => rw [leads_zero]; exact Nat.le_refl _
  | succ k ih =>
    by_cases h : k < L.length
    · rw [leads_succ W m L k h]
      have := lead_arcs W (W.leads m L k) L[k]
      omega
    · have e : W.leads m L (k + 1) = W.leads m L k := by
        unfold Walk.leads
        rw [List.take_of_length_le (by omega), List.take_of_length_le (by omega)]
      rw [e]; omega
/-- No more leads than bytes. -/
theorem Leads.few {W : Walk σ} {s : σ} {L : List (Trail σ)} : ∀ {c : Nat}, c ≤ 256 → Leads W s c L → L.length + c ≤ 256 := by
  induction L with
  | nil => intro c hc _; simpa using hc
  | cons l r ih =>
    intro c hc h
    obtain ⟨h1, h2, h3, _, _, h6⟩ := h
    have := ih (by omega) h6
    simp only [List.length_cons]
    omega
/-- How a loop over the leads met so far ends: what it says is a walk's next row. -/
theorem states_leads (W : Walk σ) (hr : ∀ s, W.same s s = true) (s a : σ) (i : Nat) (ha : (W.met s i)[i]? = some a) (L : List (Trail σ)) (h : Leads W a 0 L) :
    (W.leads (W.met s i) L L.length).1 = W.met s (i + 1) ∧ W.out s i ++ [⟨W.fin a, (W.leads (W.met s i) L L.length).2⟩] = W.out s (i + 1) := by
  rw [leads_all W hr a _ L h]
  unfold Walk.met Walk.out at *
  simp only [Walk.states]
  rw [ha]
  exact ⟨rfl, rfl⟩
end Au
end Go.Proofs.Ytpoeklgoepjikaa
