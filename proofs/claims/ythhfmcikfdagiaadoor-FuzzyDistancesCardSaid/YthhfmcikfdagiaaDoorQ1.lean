/-
  Lemmas on automata, the program's calls and the given ones, put together of 20 texts (part 1).
-/
import Derived.Lib.ValidLaws
import Derived.Lib.MapLaws
import Derived.Lib.RuneCount
import Derived.Lib.Hide
/-
  Characters as bytes and back, plainly: what is written is read, what is read is written, and the order of both; no program is named here.
-/
namespace Go.Proofs.YthhfmcikfdagiaaDoor.Ut
open Go.Lib

/-- A number is a character. -/
def whole (c : Int) : Bool := decide ((0 ≤ c ∧ c < 55296) ∨ (57343 < c ∧ c < 1114112))
theorem whole_iff {c : Int} : whole c = true ↔ ((0 ≤ c ∧ c < 55296) ∨ (57343 < c ∧ c < 1114112)) := decide_eq_true_iff
def allW (l : List Int) : Bool := l.all whole
def enc (l : List Int) : List UInt8 := l.flatMap encodeRune
def decGo : Nat → List UInt8 → List Int
  | 0, _ => []
  | n + 1, l => if l = [] then [] else ((decodeL l).1 : Int) :: decGo n (l.drop (decodeL l).2)
def dec (l : List UInt8) : List Int := decGo l.length l
/-- No character begins the bytes. -/
def Bad (l : List UInt8) : Prop := (decodeL l).1 = 65533 ∧ (decodeL l).2 = 1
instance (l : List UInt8) : Decidable (Bad l) := by unfold Bad; infer_instance

theorem enc_cons (c : Int) (l : List Int) : enc (c :: l) = encodeRune c ++ enc l := rfl
theorem enc_append (a b : List Int) : enc (a ++ b) = enc a ++ enc b := by simp [enc]
theorem enc_snoc (a : List Int) (c : Int) : enc (a ++ [c]) = enc a ++ encodeRune c := by rw [enc_append]; simp [enc]
theorem allW_append (a b : List Int) : allW (a ++ b) = (allW a && allW b) := by simp [allW]
theorem allW_cons (c : Int) (l : List Int) : allW (c :: l) = (whole c && allW l) := rfl
theorem allW_iff {l : List Int} : allW l = true ↔ ∀ c ∈ l, whole c = true := List.all_eq_true
theorem decGo_nil : ∀ n, decGo n [] = []
  | 0 => rfl
  | _ + 1 => by simp [decGo]
theorem decGo_fuel : ∀ (n m : Nat) (l : List UInt8), l.length ≤ n → l.length ≤ m → decGo n l = decGo m l
  | 0, m, l, hn, _ => by
    have : l = [] := List.eq_nil_of_length_eq_zero (by omega)
    subst this
    rw [decGo_nil, decGo_nil]
  | n + 1, 0, l, _, hm => by
    have : l = [] := List.eq_nil_of_length_eq_zero (by omega)
    subst this
    rw [decGo_nil, decGo_nil]
  | n + 1, m + 1, l, hn, hm => by
    unfold decGo
    by_cases hne : l = []
    · simp [hne]
    · have hw := decodeL_width l
      have hl : 0 < l.length := List.length_pos_iff.2 hne
      rw [if_neg hne, if_neg hne, decGo_fuel n m (l.drop (decodeL l).2) (by rw [List.length_drop]; omega) (by rw [List.length_drop]; omega)]
theorem dec_nil : dec [] = [] := rfl
theorem dec_step (l : List UInt8) (hne : l ≠ []) : dec l = ((decodeL l).1 : Int) :: dec (l.drop (decodeL l).2) := by
  have hl : 0 < l.length := List.length_pos_iff.2 hne
  have hw := decodeL_width l
  obtain ⟨n, hn⟩ : ∃ n, l.length = n + 1 := ⟨l.length - 1, by omega⟩
  unfold dec
  rw [hn]
  show (if l = [] then [] else _) = _
  rw [if_neg hne, decGo_fuel n (l.drop (decodeL l).2).length _ (by rw [List.length_drop]; omega) (Nat.le_refl _)]
theorem dec_length : ∀ (n : Nat) (l : List UInt8), (decGo n l).length ≤ n
  | 0, _ => by simp [decGo]
  | n + 1, l => by
    unfold decGo
    split
    · simp
    · rw [List.length_cons]
      have := dec_length n (l.drop (decodeL l).2)
      omega

/-- The bytes of a character, by its size. -/
theorem run_cases (c : Int) (h : whole c = true) :
    (0 ≤ c ∧ c ≤ 127 ∧ encodeRuneZ c = [c]) ∨ (128 ≤ c ∧ c ≤ 2047 ∧ encodeRuneZ c = [192 + c / 64, 128 + c % 64]) ∨
    (((2048 ≤ c ∧ c < 55296) ∨ (57343 < c ∧ c ≤ 65535)) ∧ encodeRuneZ c = [224 + c / 4096, 128 + c / 64 % 64, 128 + c % 64]) ∨
    (65536 ≤ c ∧ c ≤ 1114111 ∧ encodeRuneZ c = [240 + c / 262144, 128 + c / 4096 % 64, 128 + c / 64 % 64, 128 + c % 64]) := by
  rw [whole_iff] at h
  by_cases h1 : c ≤ 127
  · exact .inl ⟨by omega, h1, encodeRuneZ_one (by omega) h1⟩
  by_cases h2 : c ≤ 2047
  · exact .inr (.inl ⟨by omega, h2, encodeRuneZ_two (by omega) h2⟩)
  by_cases h3 : c ≤ 65535
  · exact .inr (.inr (.inl ⟨by omega, encodeRuneZ_three (by omega)⟩))
  · exact .inr (.inr (.inr ⟨by omega, by omega, encodeRuneZ_four (by omega) (by omega)⟩))
theorem byteZ (x : Int) (_h0 : 0 ≤ x) (h1 : x < 256) : (x.toNat.toUInt8).toNat = x.toNat := by
  simp
  omega
theorem byteI (x : Int) (h0 : 0 ≤ x) (h1 : x < 256) : ((x.toNat.toUInt8).toNat : Int) = x := by
  rw [byteZ x h0 h1]; omega
theorem rune_length (c : Int) : 1 ≤ (encodeRune c).length ∧ (encodeRune c).length ≤ 4 := by
  unfold encodeRune encodeRuneZ
  repeat' split
  all_goals simp
theorem rune_ne (c : Int) : encodeRune c ≠ [] := fun h => by have := (rune_length c).1; rw [h] at this; simp at this
theorem enc_length (l : List Int) : l.length ≤ (enc l).length ∧ (enc l).length ≤ 4 * l.length := by
  induction l with
  | nil => simp [enc]
  | cons c t ih =>
    have := rune_length c
    rw [enc_cons, List.length_append, List.length_cons]
    omega

/-- What is read is a character. -/
theorem decode_whole (l : List UInt8) : whole ((decodeL l).1 : Int) = true := by
  rw [whole_iff]
  rw [decodeL_N]
  have k0 := (l.getD 0 0).toNat_lt
  have k1 := (l.getD 1 0).toNat_lt
  have k2 := (l.getD 2 0).toNat_lt
  have k3 := (l.getD 3 0).toNat_lt
  rcases decodeN_shape l.length (l.getD 0 0).toNat (l.getD 1 0).toNat (l.getD 2 0).toNat (l.getD 3 0).toNat with ⟨c, e⟩ | ⟨c1, c2, c3, cv, e⟩ | ⟨c1, c2, c3, c4, cv, cs, e⟩ | ⟨c1, c2, c3, c4, c5, cv, cw, e⟩ | e
  all_goals (rw [e]; dsimp only; omega)

theorem validD_good (l : List UInt8) (hne : l ≠ []) (hb : ¬ Bad l) : validD l = validD (l.drop (decodeL l).2) := by rw [validD_step l hne]; exact if_neg hb
theorem validD_bad (l : List UInt8) (hne : l ≠ []) (hb : Bad l) : validD l = false := by rw [validD_step l hne]; exact if_pos hb

/-- Bytes that are read are just what they are written in. -/
theorem enc_dec : ∀ (n : Nat) (l : List UInt8), l.length ≤ n → validD l = true → enc (dec l) = l ∧ allW (dec l) = true := by
  intro n
  induction n with
  | zero =>
    intro l hl _
    have : l = [] := List.eq_nil_of_length_eq_zero (by omega)
    subst this
    exact ⟨rfl, rfl⟩
  | succ n ih =>
    intro l hl hv
    by_cases hne : l = []
    · subst hne; exact ⟨rfl, rfl⟩
    · by_cases hb : Bad l
      · rw [validD_bad l hne hb] at hv; cases hv
      · have hw := decodeL_width l
        have hl0 : 0 < l.length := List.length_pos_iff.2 hne
        rw [validD_good l hne hb] at hv
        obtain ⟨i1, i2⟩ := ih (l.drop (decodeL l).2) (by rw [List.length_drop]; omega) hv
        rw [dec_step l hne, enc_cons, allW_cons, i1, i2, encode_decode l hne hb, List.take_append_drop, decode_whole l]
        exact ⟨rfl, rfl⟩

end Go.Proofs.YthhfmcikfdagiaaDoor.Ut

/-
  Ranges of characters as rows of ranges of bytes, plainly: how a range is cut, what a row holds, how many rows there are; no program is named here.
-/
namespace Go.Proofs.YthhfmcikfdagiaaDoor.Sp
open Go.Lib

/-- The cuts: first and last character, bytes behind the first. -/
def cuts : List (Int × Int × Nat) := [(0, 127, 0), (128, 2047, 1), (2048, 55295, 2), (57344, 65535, 2), (65536, 1114111, 3)]
def pw (t : Nat) : Int := 64 ^ t
theorem pw0 : pw 0 = 1 := rfl
theorem pw1 : pw 1 = 64 := rfl
theorem pw2 : pw 2 = 4096 := rfl
theorem pw3 : pw 3 = 262144 := rfl
/-- How many bytes at the end turn whole: so many at most are still asked for. -/
def turns (c last : Int) : Nat → Nat → Nat
  | 0, t => t
  | n + 1, t => if c % pw (t + 1) = 0 ∧ c + (pw (t + 1) - 1) ≤ last then turns c last n (t + 1) else t
def endOf (c last : Int) (tails : Nat) : Int :=
  let t := turns c last tails 0
  let l := if t < tails then min last (c - c % pw (t + 1) + (pw (t + 1) - 1)) else last
  (l + 1) - (l + 1) % pw t - 1
/-- What a row that begins with a and ends with b is. -/
structure Good (f l : Int) (tails t : Nat) (a b : Int) : Prop where
  tl : t ≤ tails
  lo : f ≤ a
  hi : b ≤ l
  le : a ≤ b
  a0 : a % pw t = 0
  b0 : (b + 1) % pw t = 0
  pre : t < tails → a / pw (t + 1) = b / pw (t + 1)

theorem turns_le (c last : Int) : ∀ n t, t ≤ turns c last n t ∧ turns c last n t ≤ t + n
  | 0, t => ⟨Nat.le_refl _, Nat.le_refl _⟩
  | n + 1, t => by
    unfold turns
    split
    · have := turns_le c last n (t + 1); omega
    · omega
theorem turns_at (c last : Int) : ∀ n t, c % pw t = 0 ∧ c + (pw t - 1) ≤ last → c % pw (turns c last n t) = 0 ∧ c + (pw (turns c last n t) - 1) ≤ last
  | 0, t, h => h
  | n + 1, t, h => by
    unfold turns
    split
    · rename_i h2; exact turns_at c last n (t + 1) h2
    · exact h
theorem turns_no (c last : Int) : ∀ n t, turns c last n t < t + n → ¬ (c % pw (turns c last n t + 1) = 0 ∧ c + (pw (turns c last n t + 1) - 1) ≤ last)
  | 0, t, h => by simp [turns] at h
  | n + 1, t, h => by
    unfold turns at h ⊢
    split at h
    · rename_i h2
      rw [if_pos h2]
      exact turns_no c last n (t + 1) (by omega)
    · rename_i h2
      rw [if_neg h2]
      exact h2
/-- What the end of a row is. -/
theorem endOf_good (c last f l : Int) (tails : Nat) (ht : tails ≤ 3) (_h0 : 0 ≤ c) (hf : f ≤ c) (hc : c ≤ last) (hl : last ≤ l) :
    Good f l tails (turns c last tails 0) c (endOf c last tails) ∧ endOf c last tails ≤ last := by
  have h1 := turns_le c last tails 0
  have h2 := turns_at c last tails 0 ⟨by rw [pw0]; omega, by rw [pw0]; omega⟩
  unfold endOf
  generalize turns c last tails 0 = t at *
  have ht3 : t = 0 ∨ t = 1 ∨ t = 2 ∨ t = 3 := by omega
  by_cases hlt : t < tails
  · rcases ht3 with rfl | rfl | rfl | rfl
    · simp only [pw0, Nat.zero_add, pw1, hlt, if_true] at *
      refine ⟨⟨by omega, by omega, by omega, by omega, by rw [pw0]; omega, by rw [pw0]; omega, fun _ => by rw [Nat.zero_add, pw1]; omega⟩, by omega⟩
    · simp only [Nat.reduceAdd, pw1, pw2, hlt, if_true] at *
      refine ⟨⟨by omega, by omega, by omega, by omega, by rw [pw1]; omega, by rw [pw1]; omega, fun _ => by rw [pw2]; omega⟩, by omega⟩
    · simp only [Nat.reduceAdd, pw2, pw3, hlt, if_true] at *
      refine ⟨⟨by omega, by omega, by omega, by omega, by rw [pw2]; omega, by rw [pw2]; omega, fun _ => by rw [pw3]; omega⟩, by omega⟩
    · omega
  · obtain rfl : t = tails := by omega
    rcases ht3 with rfl | rfl | rfl | rfl
    all_goals
      simp only [pw0, pw1, pw2, pw3, Nat.lt_irrefl, if_false] at *
      refine ⟨⟨by omega, by omega, by omega, by omega, by simp only [pw0, pw1, pw2, pw3]; omega, by simp only [pw0, pw1, pw2, pw3]; omega, fun h => absurd h (Nat.lt_irrefl _)⟩, by omega⟩
/-- The rows from a character on, each by its first and its last one. -/
def seg (last : Int) (tails : Nat) : Nat → Int → List (Int × Int)
  | 0, _ => []
  | n + 1, c => if c ≤ last then (c, endOf c last tails) :: seg last tails n (endOf c last tails + 1) else []
def segs (c last : Int) (tails : Nat) : List (Int × Int) := seg last tails (last + 1 - c).toNat c
theorem seg_fuel (last : Int) (tails : Nat) (ht : tails ≤ 3) : ∀ n m c, 0 ≤ c → (last + 1 - c).toNat ≤ n → (last + 1 - c).toNat ≤ m → seg last tails n c = seg last tails m c
  | 0, 0, c, _, _, _ => rfl
  | 0, m + 1, c, _, h, _ => by unfold seg; rw [if_neg (by omega)]
  | n + 1, 0, c, _, _, h => by unfold seg; rw [if_neg (by omega)]
  | n + 1, m + 1, c, h0, h1, h2 => by
    unfold seg
    by_cases hc : c ≤ last
    · rw [if_pos hc, if_pos hc]
      obtain ⟨hg, he⟩ := endOf_good c last c last tails ht h0 (Int.le_refl _) hc (Int.le_refl _)
      have := hg.le
      rw [seg_fuel last tails ht n m (endOf c last tails + 1) (by omega) (by omega) (by omega)]
    · rw [if_neg hc, if_neg hc]
theorem segs_step (c last : Int) (tails : Nat) (ht : tails ≤ 3) (h0 : 0 ≤ c) : segs c last tails = if c ≤ last then (c, endOf c last tails) :: segs (endOf c last tails + 1) last tails else [] := by
  by_cases hc : c ≤ last
  · rw [if_pos hc]
    obtain ⟨hg, he⟩ := endOf_good c last c last tails ht h0 (Int.le_refl _) hc (Int.le_refl _)
    have := hg.le
    unfold segs
    obtain ⟨n, hn⟩ : ∃ n, (last + 1 - c).toNat = n + 1 := ⟨(last + 1 - c).toNat - 1, by omega⟩
    rw [hn]
    have e : seg last tails (n + 1) c = if c ≤ last then (c, endOf c last tails) :: seg last tails n (endOf c last tails + 1) else [] := rfl
    rw [e, if_pos hc, seg_fuel last tails ht n _ (endOf c last tails + 1) (by omega) (by omega) (Nat.le_refl _)]
  · rw [if_neg hc]
    unfold segs
    rw [show (last + 1 - c).toNat = 0 by omega]
    rfl
/-- All rows of a range. -/
def pairs (lo hi : Int) : List (Int × Int) := cuts.flatMap fun k => segs (max lo k.1) (min hi k.2.1) k.2.2
/-- A row: a range for each byte. -/
def rowOf (p : Int × Int) : List (Int × Int) := (encodeRuneZ p.1).zip (encodeRuneZ p.2)
def rows (lo hi : Int) : List (List (Int × Int)) := (pairs lo hi).map rowOf
/-- What holds of every row of a range of one cut, and each number of it in just one of them. -/
theorem segs_all (f l : Int) (tails : Nat) (ht : tails ≤ 3) (hf : 0 ≤ f) (last : Int) (hl : last ≤ l) : ∀ n c, f ≤ c → (last + 1 - c).toNat = n → ∀ p ∈ segs c last tails, c ≤ p.1 ∧ p.2 ≤ last ∧ ∃ t, Good f l tails t p.1 p.2 := by
  intro n
  induction n using Nat.strongRecOn with
  | _ n ih =>
    intro c hc hn p hp
    rw [segs_step c last tails ht (by omega)] at hp
    split at hp
    · rename_i h
      obtain ⟨hg, he⟩ := endOf_good c last f l tails ht (by omega) hc h hl
      have := hg.le
      rcases List.mem_cons.1 hp with rfl | hp
      · exact ⟨Int.le_refl _, he, _, hg⟩
      · obtain ⟨h1, h2⟩ := ih _ (by omega) (endOf c last tails + 1) (by omega) rfl p hp
        exact ⟨by omega, h2⟩
    · cases hp
theorem segs_hold (tails : Nat) (ht : tails ≤ 3) (last x : Int) : ∀ n c, 0 ≤ c → (last + 1 - c).toNat = n → ((segs c last tails).filter fun p => decide (p.1 ≤ x ∧ x ≤ p.2)).length = if c ≤ x ∧ x ≤ last then 1 else 0 := by
  intro n
  induction n using Nat.strongRecOn with
  | _ n ih =>
    intro c hc hn
    rw [segs_step c last tails ht hc]
    by_cases h : c ≤ last
    · rw [if_pos h]
      obtain ⟨hg, he⟩ := endOf_good c last c last tails ht hc (Int.le_refl _) h (Int.le_refl _)
      have := hg.le
      have ih := ih _ (by omega) (endOf c last tails + 1) (by omega) rfl
      rw [List.filter_cons]
      by_cases hx : c ≤ x ∧ x ≤ endOf c last tails
      · rw [if_pos (by simpa using hx), List.length_cons, ih, if_neg (by omega), if_pos (by omega)]
      · rw [if_neg (by simpa using hx), ih]
        split
        · rw [if_pos (by omega)]
        · rw [if_neg (by omega)]
    · rw [if_neg h, if_neg (by omega)]
      rfl
end Go.Proofs.YthhfmcikfdagiaaDoor.Sp

/-
  What rows hold, plainly: how many texts, which characters; how many rows there are; no program is named here.
-/
namespace Go.Proofs.YthhfmcikfdagiaaDoor.Sp
open Go.Lib

/-- How many texts a row holds. -/
def cnt (r : List (Int × Int)) : Int := r.foldl (fun n x => n * (x.2 - x.1 + 1)) 1
/-- Does a row hold these bytes. -/
def fits : List (Int × Int) → List UInt8 → Bool
  | [], [] => true
  | r :: rs, c :: cs => decide (r.1 ≤ (c.toNat : Int) ∧ (c.toNat : Int) ≤ r.2) && fits rs cs
  | _, _ => false
def fitsZ : List (Int × Int) → List Int → Bool
  | [], [] => true
  | r :: rs, c :: cs => decide (r.1 ≤ c ∧ c ≤ r.2) && fitsZ rs cs
  | _, _ => false
theorem fits_of : ∀ (r : List (Int × Int)) (l : List Int), (∀ x ∈ l, 0 ≤ x ∧ x < 256) → fits r (l.map fun x => x.toNat.toUInt8) = fitsZ r l
  | [], [], _ => rfl
  | [], _ :: _, _ => rfl
  | _ :: _, [], _ => rfl
  | r :: rs, c :: cs, h => by
    have hc := h c (List.mem_cons_self ..)
    show (decide _ && fits rs _) = (decide _ && fitsZ rs cs)
    rw [fits_of rs cs fun x hx => h x (List.mem_cons_of_mem _ hx), Ut.byteI c hc.1 hc.2]
theorem fits_rune (r : List (Int × Int)) (c : Int) : fits r (encodeRune c) = fitsZ r (encodeRuneZ c) := fits_of r _ (encodeRuneZ_byte c)

/-- The digits of a number. -/
theorem digits (x : Int) (_h0 : 0 ≤ x) (_h1 : x ≤ 1114111) : ∃ x3 x2 x1 x0 : Int, x = x3 * 262144 + x2 * 4096 + x1 * 64 + x0 ∧ 0 ≤ x0 ∧ x0 < 64 ∧ 0 ≤ x1 ∧ x1 < 64 ∧ 0 ≤ x2 ∧ x2 < 64 ∧ 0 ≤ x3 ∧ x3 ≤ 4 ∧
    x / 262144 = x3 ∧ x / 4096 % 64 = x2 ∧ x / 64 % 64 = x1 ∧ x % 64 = x0 ∧ x / 4096 = x3 * 64 + x2 ∧ x / 64 = x3 * 4096 + x2 * 64 + x1 := by
  refine ⟨x / 262144, x / 4096 % 64, x / 64 % 64, x % 64, ?_⟩
  omega
/-- A row of good ends lies within a cut. -/
inductive InCut : Int → Int → Nat → Prop
  | c0 : InCut 0 127 0
  | c1 : InCut 128 2047 1
  | c2 : InCut 2048 55295 2
  | c3 : InCut 57344 65535 2
  | c4 : InCut 65536 1114111 3
theorem inCut_of {k : Int × Int × Nat} (h : k ∈ cuts) : InCut k.1 k.2.1 k.2.2 := by
  simp only [cuts, List.mem_cons, List.not_mem_nil, or_false] at h
  rcases h with rfl | rfl | rfl | rfl | rfl
  · exact .c0
  · exact .c1
  · exact .c2
  · exact .c3
  · exact .c4
/-- What is asked of a row whose ends are good: its ranges, one by one. -/
structure Row (tails : Nat) (a b : Int) (r : List (Int × Int)) : Prop where
  cnt : cnt r = b - a + 1
  len : r.length = tails + 1
  rng : ∀ x ∈ r, 0 ≤ x.1 ∧ x.1 ≤ x.2 ∧ x.2 ≤ 255
  fit : ∀ c, Ut.whole c = true → fitsZ r (encodeRuneZ c) = decide (a ≤ c ∧ c ≤ b)
theorem row0 (a b : Int) (h0 : 0 ≤ a) (hb : b ≤ 127) (hab : a ≤ b) : Row 0 a b [(a, b)] := by
  refine ⟨?_, rfl, ?_, ?_⟩
  · show 1 * (b - a + 1) = _
    omega
  · intro x hx
    obtain rfl := List.mem_singleton.1 hx
    omega
  · intro c hc
    rcases Ut.run_cases c hc with ⟨h1, h2, e⟩ | ⟨h1, h2, e⟩ | ⟨h1, e⟩ | ⟨h1, h2, e⟩ <;> rw [e]
    · simp [fitsZ]
    · simp [fitsZ]; omega
    · simp [fitsZ]; omega
    · simp [fitsZ]; omega
theorem row1 (a b : Int) (h0 : 128 ≤ a) (hb : b ≤ 2047) (hab : a ≤ b) (h : (a / 64 = b / 64) ∨ (a % 64 = 0 ∧ b % 64 = 63)) : Row 1 a b [(192 + a / 64, 192 + b / 64), (128 + a % 64, 128 + b % 64)] := by
  refine ⟨?_, rfl, ?_, ?_⟩
  · show 1 * (192 + b / 64 - (192 + a / 64) + 1) * (128 + b % 64 - (128 + a % 64) + 1) = _
    rcases h with h | ⟨h1, h2⟩
    · rw [h, show 1 * (192 + b / 64 - (192 + b / 64) + 1) = 1 by omega]
      omega
    · rw [h1, h2]
      omega
  · intro x hx
    simp only [List.mem_cons, List.not_mem_nil, or_false] at hx
    rcases hx with rfl | rfl
    · dsimp only; omega
    · dsimp only; omega
  · intro c hc
    rcases Ut.run_cases c hc with ⟨h1, h2, e⟩ | ⟨h1, h2, e⟩ | ⟨h1, e⟩ | ⟨h1, h2, e⟩ <;> rw [e]
    · simp [fitsZ]; omega
    · simp only [fitsZ, Bool.and_true, ← Bool.decide_and]
      refine decide_eq_decide.2 ?_
      constructor
      · rcases h with h | h <;> omega
      · rcases h with h | h <;> omega
    · simp [fitsZ]; omega
    · simp [fitsZ]; omega
theorem row2 (a b : Int) (h0 : (2048 ≤ a ∧ b ≤ 55295) ∨ (57344 ≤ a ∧ b ≤ 65535)) (hab : a ≤ b)
    (h : (a / 64 = b / 64) ∨ (a / 4096 = b / 4096 ∧ a % 64 = 0 ∧ b % 64 = 63) ∨ (a % 64 = 0 ∧ a / 64 % 64 = 0 ∧ b % 64 = 63 ∧ b / 64 % 64 = 63)) :
    Row 2 a b [(224 + a / 4096, 224 + b / 4096), (128 + a / 64 % 64, 128 + b / 64 % 64), (128 + a % 64, 128 + b % 64)] := by
  obtain ⟨a3, a2, a1, a0, ea, r0, r1, r2, r3, r4, r5, r6, r7, d3, d2, d1, d0, e2, e1⟩ := digits a (by omega) (by omega)
  obtain ⟨b3, b2, b1, b0, eb, s0, s1, s2, s3, s4, s5, s6, s7, f3, f2, f1, f0, g2, g1⟩ := digits b (by omega) (by omega)
  rw [d1, d0, f1, f0, e1, e2, g1, g2] at h
  refine ⟨?_, rfl, ?_, ?_⟩
  · show 1 * (224 + b / 4096 - (224 + a / 4096) + 1) * (128 + b / 64 % 64 - (128 + a / 64 % 64) + 1) * (128 + b % 64 - (128 + a % 64) + 1) = _
    rw [e2, g2, d1, f1, d0, f0]
    clear d3 d2 d1 d0 f3 f2 f1 f0 e2 e1 g2 g1
    rcases h with h | ⟨h1, h2, h3⟩ | ⟨h1, h2, h3, h4⟩
    · obtain rfl : b3 = a3 := by omega
      obtain rfl : b2 = a2 := by omega
      obtain rfl : b1 = a1 := by omega
      rw [show 1 * (224 + (b3 * 64 + b2) - (224 + (b3 * 64 + b2)) + 1) = 1 by omega, show 1 * (128 + b1 - (128 + b1) + 1) = 1 by omega]
      omega
    · obtain rfl : b3 = a3 := by omega
      obtain rfl : b2 = a2 := by omega
      rw [show 1 * (224 + (b3 * 64 + b2) - (224 + (b3 * 64 + b2)) + 1) = 1 by omega, h2, h3]
      omega
    · rw [h1, h2, h3, h4, show (128 + (63 : Int) - (128 + 0) + 1) = 64 by omega]
      omega
  · intro x hx
    simp only [List.mem_cons, List.not_mem_nil, or_false] at hx
    rcases hx with rfl | rfl | rfl
    · dsimp only; omega
    · dsimp only; omega
    · dsimp only; omega
  · intro c hc
    rcases Ut.run_cases c hc with ⟨h1, h2, e⟩ | ⟨h1, h2, e⟩ | ⟨h1, e⟩ | ⟨h1, h2, e⟩ <;> rw [e]
    · simp [fitsZ]; omega
    · simp [fitsZ]; omega
    · simp only [fitsZ, Bool.and_true, ← Bool.decide_and]
      refine decide_eq_decide.2 ?_
      obtain ⟨c3, c2, c1, c0, ec, t0, t1, t2, t3, t4, t5, t6, t7, i3, i2, i1, i0, j2, j1⟩ := digits c (by omega) (by omega)
      rw [e2, g2, d1, f1, d0, f0, j2, i1, i0]
      clear d3 d2 d1 d0 f3 f2 f1 f0 e2 e1 g2 g1 i3 i2 i1 i0 j2 j1
      constructor
      · rcases h with h | h | h <;> omega
      · rcases h with h | h | h <;> omega
    · simp [fitsZ]; omega
theorem row3 (a b : Int) (h0 : 65536 ≤ a) (hb : b ≤ 1114111) (hab : a ≤ b)
    (h : (a / 64 = b / 64) ∨ (a / 4096 = b / 4096 ∧ a % 64 = 0 ∧ b % 64 = 63) ∨ (a / 262144 = b / 262144 ∧ a % 64 = 0 ∧ a / 64 % 64 = 0 ∧ b % 64 = 63 ∧ b / 64 % 64 = 63) ∨
      (a % 64 = 0 ∧ a / 64 % 64 = 0 ∧ a / 4096 % 64 = 0 ∧ b % 64 = 63 ∧ b / 64 % 64 = 63 ∧ b / 4096 % 64 = 63)) :
    Row 3 a b [(240 + a / 262144, 240 + b / 262144), (128 + a / 4096 % 64, 128 + b / 4096 % 64), (128 + a / 64 % 64, 128 + b / 64 % 64), (128 + a % 64, 128 + b % 64)] := by
  obtain ⟨a3, a2, a1, a0, ea, r0, r1, r2, r3, r4, r5, r6, r7, d3, d2, d1, d0, e2, e1⟩ := digits a (by omega) (by omega)
  obtain ⟨b3, b2, b1, b0, eb, s0, s1, s2, s3, s4, s5, s6, s7, f3, f2, f1, f0, g2, g1⟩ := digits b (by omega) (by omega)
  rw [d1, d0, f1, f0, e1, g1, d3, f3, d2, f2, e2, g2] at h
  refine ⟨?_, rfl, ?_, ?_⟩
  · show 1 * (240 + b / 262144 - (240 + a / 262144) + 1) * (128 + b / 4096 % 64 - (128 + a / 4096 % 64) + 1) * (128 + b / 64 % 64 - (128 + a / 64 % 64) + 1) * (128 + b % 64 - (128 + a % 64) + 1) = _
    rw [d3, f3, d2, f2, d1, f1, d0, f0]
    clear d3 d2 d1 d0 f3 f2 f1 f0 e2 e1 g2 g1
    rcases h with h | ⟨h1, h2, h3⟩ | ⟨h1, h2, h3, h4, h5⟩ | ⟨h1, h2, h3, h4, h5, h6⟩
    · obtain rfl : b3 = a3 := by omega
      obtain rfl : b2 = a2 := by omega
      obtain rfl : b1 = a1 := by omega
      rw [show 1 * (240 + b3 - (240 + b3) + 1) = 1 by omega, show 1 * (128 + b2 - (128 + b2) + 1) = 1 by omega, show 1 * (128 + b1 - (128 + b1) + 1) = 1 by omega]
      omega
    · obtain rfl : b3 = a3 := by omega
      obtain rfl : b2 = a2 := by omega
      rw [show 1 * (240 + b3 - (240 + b3) + 1) = 1 by omega, show 1 * (128 + b2 - (128 + b2) + 1) = 1 by omega, h2, h3]
      omega
    · obtain rfl : b3 = a3 := by omega
      rw [show 1 * (240 + b3 - (240 + b3) + 1) = 1 by omega, h2, h3, h4, h5, show (128 + (63 : Int) - (128 + 0) + 1) = 64 by omega]
      omega
    · rw [h1, h2, h3, h4, h5, h6, show (128 + (63 : Int) - (128 + 0) + 1) = 64 by omega]
      omega
  · intro x hx
    simp only [List.mem_cons, List.not_mem_nil, or_false] at hx
    rcases hx with rfl | rfl | rfl | rfl
    · dsimp only; omega
    · dsimp only; omega
    · dsimp only; omega
    · dsimp only; omega
  · intro c hc
    rcases Ut.run_cases c hc with ⟨h1, h2, e⟩ | ⟨h1, h2, e⟩ | ⟨h1, e⟩ | ⟨h1, h2, e⟩ <;> rw [e]
    · simp [fitsZ]; omega
    · simp [fitsZ]; omega
    · simp [fitsZ]; omega
    · simp only [fitsZ, Bool.and_true, ← Bool.decide_and]
      refine decide_eq_decide.2 ?_
      obtain ⟨c3, c2, c1, c0, ec, t0, t1, t2, t3, t4, t5, t6, t7, i3, i2, i1, i0, j2, j1⟩ := digits c (by omega) (by omega)
      rw [d3, f3, d2, f2, d1, f1, d0, f0, i3, i2, i1, i0]
      clear d3 d2 d1 d0 f3 f2 f1 f0 e2 e1 g2 g1 i3 i2 i1 i0 j2 j1
      constructor
      · rcases h with h | h | h | h <;> omega
      · rcases h with h | h | h | h <;> omega
/-- A row of good ends. -/
theorem row_good {f l : Int} {tails t : Nat} {a b : Int} (hk : InCut f l tails) (h : Good f l tails t a b) : Row tails a b (rowOf (a, b)) := by
  obtain ⟨tl, lo, hi, le, a0, b0, pre⟩ := h
  unfold rowOf
  have ht : t = 0 ∨ t = 1 ∨ t = 2 ∨ t = 3 := by cases hk <;> omega
  cases hk
  · rw [encodeRuneZ_one (by omega) (by omega), encodeRuneZ_one (by omega) (by omega)]
    exact row0 a b lo hi le
  · rw [encodeRuneZ_two (by omega) (by omega), encodeRuneZ_two (by omega) (by omega)]
    refine row1 a b lo hi le ?_
    rcases ht with rfl | rfl | rfl | rfl
    · simp only [pw0, Nat.zero_add, pw1] at *; omega
    · simp only [pw1] at *; omega
    · omega
    · omega
  · rw [encodeRuneZ_three (by omega), encodeRuneZ_three (by omega)]
    refine row2 a b (by omega) le ?_
    rcases ht with rfl | rfl | rfl | rfl
    · simp only [pw0, Nat.zero_add, pw1] at *; omega
    · simp only [Nat.reduceAdd, pw1, pw2] at *; omega
    · simp only [pw2] at *; omega
    · omega
  · rw [encodeRuneZ_three (by omega), encodeRuneZ_three (by omega)]
    refine row2 a b (by omega) le ?_
    rcases ht with rfl | rfl | rfl | rfl
    · simp only [pw0, Nat.zero_add, pw1] at *; omega
    · simp only [Nat.reduceAdd, pw1, pw2] at *; omega
    · simp only [pw2] at *; omega
    · omega
  · rw [encodeRuneZ_four (by omega) (by omega), encodeRuneZ_four (by omega) (by omega)]
    refine row3 a b lo hi le ?_
    rcases ht with rfl | rfl | rfl | rfl
    · simp only [pw0, Nat.zero_add, pw1] at *; omega
    · simp only [Nat.reduceAdd, pw1, pw2] at *; omega
    · simp only [Nat.reduceAdd, pw2, pw3] at *; omega
    · simp only [pw3] at *; omega
end Go.Proofs.YthhfmcikfdagiaaDoor.Sp

/-
  All rows of a range, plainly: as many texts as characters, each character in just one row, at most 20 rows; no program is named here.
-/
namespace Go.Proofs.YthhfmcikfdagiaaDoor.Sp
open Go.Lib

theorem cut_small {f l : Int} {tails : Nat} (h : InCut f l tails) : tails ≤ 3 ∧ 0 ≤ f := by cases h <;> omega
theorem pairs_all (lo hi : Int) : ∀ p ∈ pairs lo hi, ∃ f l tails t, InCut f l tails ∧ Good f l tails t p.1 p.2 ∧ lo ≤ p.1 ∧ p.2 ≤ hi := by
  intro p hp
  obtain ⟨k, hk, hp⟩ := List.mem_flatMap.1 hp
  have hc := inCut_of hk
  obtain ⟨h1, h2, t, hg⟩ := segs_all k.1 k.2.1 k.2.2 (cut_small hc).1 (cut_small hc).2 (min hi k.2.1) (by omega) _ (max lo k.1) (by omega) rfl p hp
  exact ⟨_, _, _, t, hc, hg, by omega, by omega⟩
theorem pairs_row {lo hi : Int} {p : Int × Int} (h : p ∈ pairs lo hi) : ∃ tails, tails ≤ 3 ∧ Row tails p.1 p.2 (rowOf p) := by
  obtain ⟨f, l, tails, t, hc, hg, _⟩ := pairs_all lo hi p h
  exact ⟨tails, by cases hc <;> omega, row_good hc hg⟩
/-- Each character of the range is held by just one row. -/
theorem rows_hold (lo hi c : Int) (h : Ut.whole c = true) : ((rows lo hi).filter fun r => fits r (encodeRune c)).length = if lo ≤ c ∧ c ≤ hi then 1 else 0 := by
  unfold rows
  rw [List.filter_map, List.length_map]
  have e : (pairs lo hi).filter ((fun r => fits r (encodeRune c)) ∘ rowOf) = (pairs lo hi).filter fun p => decide (p.1 ≤ c ∧ c ≤ p.2) := by
    refine List.filter_congr fun p hp => ?_
    obtain ⟨_, _, hr⟩ := pairs_row hp
    show fits (rowOf p) (encodeRune c) = _
    rw [fits_rune, hr.fit c h]
  rw [e]
  unfold pairs
  rw [List.filter_flatMap, List.length_flatMap]
  simp only [cuts, List.map_cons, List.map_nil, List.sum_cons, List.sum_nil]
  rw [segs_hold 0 (by omega) _ _ _ _ (by omega) rfl, segs_hold 1 (by omega) _ _ _ _ (by omega) rfl, segs_hold 2 (by omega) _ _ _ _ (by omega) rfl, segs_hold 2 (by omega) _ _ _ _ (by omega) rfl, segs_hold 3 (by omega) _ _ _ _ (by omega) rfl]
  rw [Ut.whole_iff] at h
  repeat' split
  all_goals omega
theorem pw_cases (t s : Nat) (hs : s ≤ 3) (ht : t ≤ s) : pw t ≤ pw s ∧ ∀ x, x % pw s = 0 → x % pw t = 0 := by
  have h : s = 0 ∨ s = 1 ∨ s = 2 ∨ s = 3 := by omega
  have h2 : t = 0 ∨ t = 1 ∨ t = 2 ∨ t = 3 := by omega
  rcases h with rfl | rfl | rfl | rfl <;> rcases h2 with rfl | rfl | rfl | rfl <;> simp only [pw0, pw1, pw2, pw3] <;> first | omega | (constructor <;> (try intro x) <;> omega)
theorem pw_pos (t : Nat) : 1 ≤ pw t := by
  unfold pw
  have : (0 : Int) < 64 ^ t := Int.pow_pos (by omega)
  omega
theorem turns_ge (c last : Int) (tails s : Nat) (hs : s ≤ tails) (ht : tails ≤ 3) (h : c % pw s = 0) (h2 : c + (pw s - 1) ≤ last) : s ≤ turns c last tails 0 := by
  have h1 := turns_le c last tails 0
  have h3 := turns_no c last tails 0
  rcases Nat.lt_or_ge (turns c last tails 0) s with q | q
  · exfalso
    obtain ⟨p1, p2⟩ := pw_cases (turns c last tails 0 + 1) s (by omega) (by omega)
    exact h3 (by omega) ⟨p2 c h, by omega⟩
  · exact q
/-- Where less than a whole turn is left, the turns go down. -/
theorem segs_down (last : Int) (tails : Nat) (ht : tails ≤ 3) : ∀ s, s ≤ 3 → ∀ c, 0 ≤ c → c % pw s = 0 → last + 1 - c < pw s → (segs c last tails).length ≤ s := by
  intro s
  induction s using Nat.strongRecOn with
  | _ s ih =>
    intro hs c h0 hc hl
    rw [segs_step c last tails ht h0]
    by_cases h : c ≤ last
    · rw [if_pos h]
      obtain ⟨hg, he⟩ := endOf_good c last c last tails ht h0 (Int.le_refl _) h (Int.le_refl _)
      have hle := hg.le
      have h1 := turns_le c last tails 0
      have h2 := turns_at c last tails 0 ⟨by rw [pw0]; omega, by rw [pw0]; omega⟩
      have h3 := turns_no c last tails 0
      have hts : turns c last tails 0 < s := by
        rcases Nat.lt_or_ge (turns c last tails 0) s with q | q
        · exact q
        · have := (pw_cases s (turns c last tails 0) (by omega) q).1
          omega
      have hend : endOf c last tails = (last + 1) - (last + 1) % pw (turns c last tails 0) - 1 := by
        unfold endOf
        dsimp only
        by_cases q : turns c last tails 0 < tails
        · rw [if_pos q]
          obtain ⟨p1, p2⟩ := pw_cases (turns c last tails 0 + 1) s hs (by omega)
          have e0 := p2 c hc
          have := h3 (by omega)
          rw [e0] at this ⊢
          have : min last (c - 0 + (pw (turns c last tails 0 + 1) - 1)) = last := by omega
          rw [this]
        · rw [if_neg q]
      have hp := pw_pos (turns c last tails 0)
      have hm := Int.emod_nonneg (last + 1) (show pw (turns c last tails 0) ≠ 0 by omega)
      have hm2 := Int.emod_lt_of_pos (last + 1) (show 0 < pw (turns c last tails 0) by omega)
      have h5 := ih _ hts (by omega) (endOf c last tails + 1) (by omega) hg.b0 (by omega)
      rw [List.length_cons]
      omega
    · rw [if_neg h]
      exact Nat.zero_le _
theorem segs_up (last : Int) (tails : Nat) (ht : tails ≤ 3) : ∀ n s, s ≤ tails → tails - s = n → ∀ c, 0 ≤ c → c % pw s = 0 → (segs c last tails).length ≤ (tails + 1 - s) + tails := by
  intro n
  induction n using Nat.strongRecOn with
  | _ n ih =>
    intro s hs hn c h0 hc
    by_cases hl : last + 1 - c < pw s
    · have := segs_down last tails ht s (by omega) c h0 hc hl
      omega
    · have hge := turns_ge c last tails s hs ht hc (by omega)
      rw [segs_step c last tails ht h0]
      have hpp := pw_pos s
      have h : c ≤ last := by omega
      rw [if_pos h]
      obtain ⟨hg, he⟩ := endOf_good c last c last tails ht h0 (Int.le_refl _) h (Int.le_refl _)
      have hle := hg.le
      have h1 := turns_le c last tails 0
      have hp := pw_pos (turns c last tails 0)
      have hm := Int.emod_nonneg (last + 1) (show pw (turns c last tails 0) ≠ 0 by omega)
      have hm2 := Int.emod_lt_of_pos (last + 1) (show 0 < pw (turns c last tails 0) by omega)
      rw [List.length_cons]
      have down : endOf c last tails = (last + 1) - (last + 1) % pw (turns c last tails 0) - 1 → (segs (endOf c last tails + 1) last tails).length ≤ turns c last tails 0 := fun e =>
        segs_down last tails ht _ (by omega) _ (by omega) hg.b0 (by omega)
      by_cases q : turns c last tails 0 < tails
      · by_cases q2 : c - c % pw (turns c last tails 0 + 1) + (pw (turns c last tails 0 + 1) - 1) ≤ last
        · have e : endOf c last tails + 1 = c - c % pw (turns c last tails 0 + 1) + pw (turns c last tails 0 + 1) := by
            unfold endOf
            dsimp only
            rw [if_pos q, show min last (c - c % pw (turns c last tails 0 + 1) + (pw (turns c last tails 0 + 1) - 1)) = c - c % pw (turns c last tails 0 + 1) + (pw (turns c last tails 0 + 1) - 1) by omega]
            have hz : (c - c % pw (turns c last tails 0 + 1) + (pw (turns c last tails 0 + 1) - 1) + 1) % pw (turns c last tails 0) = 0 := by
              refine (pw_cases (turns c last tails 0) (turns c last tails 0 + 1) (by omega) (by omega)).2 _ ?_
              rw [show c - c % pw (turns c last tails 0 + 1) + (pw (turns c last tails 0 + 1) - 1) + 1 = c - c % pw (turns c last tails 0 + 1) + pw (turns c last tails 0 + 1) by omega]
              rw [Int.add_emod_right, Int.sub_emod, Int.emod_emod, Int.sub_self, Int.zero_emod]
            rw [hz]
            omega
          have h5 := ih _ (by omega) (turns c last tails 0 + 1) (by omega) rfl (endOf c last tails + 1) (by omega) (by
            rw [e, Int.add_emod_right, Int.sub_emod, Int.emod_emod, Int.sub_self, Int.zero_emod])
          omega
        · have := down (by
            unfold endOf
            dsimp only
            rw [if_pos q, show min last (c - c % pw (turns c last tails 0 + 1) + (pw (turns c last tails 0 + 1) - 1)) = last by omega])
          omega
      · have := down (by
          unfold endOf
          dsimp only
          rw [if_neg q])
        omega
theorem segs_few (c last : Int) (tails : Nat) (ht : tails ≤ 3) (h0 : 0 ≤ c) : (segs c last tails).length ≤ 2 * tails + 1 := by
  have := segs_up last tails ht _ 0 (by omega) rfl c h0 (by rw [pw0]; omega)
  omega
theorem segs_none (c last : Int) (tails : Nat) (ht : tails ≤ 3) (h0 : 0 ≤ c) (h : last < c) : (segs c last tails).length = 0 := by
  rw [segs_step c last tails ht h0, if_neg (by omega)]
  rfl
/-- There are at most 20 rows. -/
theorem rows_few (lo hi : Int) : (rows lo hi).length ≤ 20 := by
  unfold rows pairs
  rw [List.length_map, List.length_flatMap]
  simp only [cuts, List.map_cons, List.map_nil, List.sum_cons, List.sum_nil]
  have one : ∀ (f l : Int) (t n : Nat), t ≤ 3 → 0 ≤ f → (segs f l t).length = n → (segs (max lo f) (min hi l) t).length ≤ 2 * t + 1 ∧ (lo ≤ f ∧ l ≤ hi → (segs (max lo f) (min hi l) t).length = n) ∧ (hi < f ∨ l < lo → (segs (max lo f) (min hi l) t).length = 0 ∨ l < f) := by
    intro f l t n ht hf hn
    refine ⟨segs_few _ _ _ ht (by omega), fun h => ?_, fun h => ?_⟩
    · rw [show max lo f = f by omega, show min hi l = l by omega, hn]
    · by_cases q : l < f
      · exact .inr q
      · exact .inl (segs_none _ _ _ ht (by omega) (by omega))
  have a0 := one 0 127 0 1 (by omega) (by omega) (by decide +kernel)
  have a1 := one 128 2047 1 1 (by omega) (by omega) (by decide +kernel)
  have a2 := one 2048 55295 2 3 (by omega) (by omega) (by decide +kernel)
  have a3 := one 57344 65535 2 1 (by omega) (by omega) (by decide +kernel)
  have a4 := one 65536 1114111 3 3 (by omega) (by omega) (by decide +kernel)
  omega
end Go.Proofs.YthhfmcikfdagiaaDoor.Sp

/-
  Automata plainly: what they take; the least one, state by state in the order in which they are met; that it hangs on what is taken alone.
-/
namespace Go.Proofs.YthhfmcikfdagiaaDoor
namespace Au

/-- An automaton over any states. -/
structure Auto (σ : Type) where
  step : σ → Nat → Option σ
  fin : σ → Bool

variable {σ τ : Type}

/-- Is a text taken from here on? -/
def Auto.acc (A : Auto σ) : Option σ → List Nat → Bool
  | none, _ => false
  | some s, [] => A.fin s
  | some s, c :: w => A.acc (A.step s c) w
theorem acc_none (A : Auto σ) (w : List Nat) : A.acc none w = false := by cases w <;> rfl
theorem acc_nil (A : Auto σ) (s : σ) : A.acc (some s) [] = A.fin s := rfl
theorem acc_cons (A : Auto σ) (s : σ) (c : Nat) (w : List Nat) : A.acc (some s) (c :: w) = A.acc (A.step s c) w := rfl

/-- Two states of two automata take the same. -/
def Eqv (A : Auto σ) (B : Auto τ) (s : σ) (t : τ) : Prop := ∀ w, A.acc (some s) w = B.acc (some t) w
theorem Eqv.refl (A : Auto σ) (s : σ) : Eqv A A s s := fun _ => rfl
theorem Eqv.symm {A : Auto σ} {B : Auto τ} {s : σ} {t : τ} (h : Eqv A B s t) : Eqv B A t s := fun w => (h w).symm
theorem Eqv.fin {A : Auto σ} {B : Auto τ} {s : σ} {t : τ} (h : Eqv A B s t) : A.fin s = B.fin t := h []
theorem Eqv.next {A : Auto σ} {B : Auto τ} {s : σ} {t : τ} (h : Eqv A B s t) (c : Nat) (w : List Nat) : A.acc (A.step s c) w = B.acc (B.step t c) w := h (c :: w)

/-- Nothing is taken from here on. -/
def Dead (A : Auto σ) (s : Option σ) : Prop := ∀ w, A.acc s w = false
theorem dead_none (A : Auto σ) : Dead A none := acc_none A

open Classical in
/-- Where a byte leads, if anything is taken from there. -/
noncomputable def Auto.go (A : Auto σ) (s : σ) (c : Nat) : Option σ := if Dead A (A.step s c) then none else A.step s c
open Classical in
/-- Do two states take the same? -/
noncomputable def Auto.same (A : Auto σ) (s t : σ) : Bool := decide (Eqv A A s t)

theorem same_iff (A : Auto σ) (s t : σ) : A.same s t = true ↔ Eqv A A s t := by
  simp [Auto.same]
theorem go_some {A : Auto σ} {s t : σ} {c : Nat} (h : A.go s c = some t) : A.step s c = some t ∧ ¬ Dead A (some t) := by
  unfold Auto.go at h
  split at h
  · cases h
  · rename_i hd
    rw [h] at hd
    exact ⟨h, hd⟩
theorem go_none {A : Auto σ} {s : σ} {c : Nat} (h : A.go s c = none) : Dead A (A.step s c) := by
  unfold Auto.go at h
  split at h
  · assumption
  · rw [h]; exact dead_none A
theorem go_dead {A : Auto σ} {s : σ} {c : Nat} (hd : Dead A (A.step s c)) : A.go s c = none := by
  unfold Auto.go
  rw [if_pos hd]

/-- Two states that take the same lead alike. -/
theorem go_eqv {A : Auto σ} {B : Auto τ} {s : σ} {t : τ} (h : Eqv A B s t) (c : Nat) : (A.go s c = none ∧ B.go t c = none) ∨ ∃ s' t', A.go s c = some s' ∧ B.go t c = some t' ∧ Eqv A B s' t' := by
  cases hs : A.go s c with
  | none =>
    left
    refine ⟨rfl, go_dead fun w => ?_⟩
    rw [← h.next c w]
    exact go_none hs w
  | some s' =>
    right
    obtain ⟨h1, h2⟩ := go_some hs
    cases ht : B.go t c with
    | none =>
      exfalso
      apply h2
      intro w
      have := h.next c w
      rw [h1] at this
      rw [this]
      exact go_none ht w
    | some t' =>
      obtain ⟨h3, _⟩ := go_some ht
      refine ⟨s', t', rfl, rfl, fun w => ?_⟩
      have := h.next c w
      rwa [h1, h3] at this
/-- An arc: from a byte to a byte, to a state. -/
structure Arc where
  lo : Int
  hi : Int
  to : Int
  deriving DecidableEq
/-- A state: is it final? Its arcs. -/
structure St where
  fin : Bool
  arcs : List Arc
  deriving DecidableEq

/-- Arcs, with one byte more. -/
def grown (l : List Arc) (c k : Nat) : List Arc :=
  match l.getLast? with
  | some a => if a.hi = (c : Int) - 1 ∧ a.to = (k : Int) then l.dropLast ++ [⟨a.lo, c, k⟩] else l ++ [⟨c, c, k⟩]
  | none => [⟨c, c, k⟩]

/-- The first that is the same, or how many there are. -/
def find (same : σ → σ → Bool) : List σ → σ → Nat
  | [], _ => 0
  | m :: r, n => if same m n = true then 0 else find same r n + 1
theorem find_le (same : σ → σ → Bool) (l : List σ) (n : σ) : find same l n ≤ l.length := by
  induction l with
  | nil => exact Nat.le_refl _
  | cons m r ih => simp only [find, List.length_cons]; split <;> omega
theorem find_hit (same : σ → σ → Bool) (l : List σ) (n : σ) (h : find same l n < l.length) : same l[find same l n] n = true := by
  induction l with
  | nil => simp at h
  | cons m r ih =>
    by_cases hm : same m n = true
    · simp only [find, hm, if_true, List.getElem_cons_zero]
    · have e : find same (m :: r) n = find same r n + 1 := by simp only [find, hm]; rfl
      simp only [e, List.getElem_cons_succ]
      exact ih (by rw [e, List.length_cons] at h; omega)
theorem find_miss (same : σ → σ → Bool) (l : List σ) (n : σ) (k : Nat) (hk : k < find same l n) : ∃ h : k < l.length, same l[k] n = false := by
  induction l generalizing k with
  | nil => simp [find] at hk
  | cons m r ih =>
    by_cases hm : same m n = true
    · simp only [find, hm, if_true] at hk; omega
    · have e : find same (m :: r) n = find same r n + 1 := by simp only [find, hm]; rfl
      rw [e] at hk
      cases k with
      | zero => exact ⟨by simp, by simpa using hm⟩
      | succ k =>
        obtain ⟨h1, h2⟩ := ih k (by omega)
        exact ⟨by simp only [List.length_cons]; omega, by simpa using h2⟩
theorem find_append (same : σ → σ → Bool) (l r : List σ) (n : σ) (h : find same l n < l.length) : find same (l ++ r) n = find same l n := by
  induction l with
  | nil => simp at h
  | cons m t ih =>
    by_cases hm : same m n = true
    · simp only [List.cons_append, find, hm, if_true]
    · have e : find same (m :: t) n = find same t n + 1 := by simp only [find, hm]; rfl
      rw [e, List.length_cons] at h
      have := ih (by omega)
      simp only [List.cons_append, find, hm]
      simp [this]
theorem find_snoc (same : σ → σ → Bool) (hr : ∀ s, same s s = true) (l : List σ) (n : σ) (h : find same l n = l.length) : find same (l ++ [n]) n = l.length := by
  induction l with
  | nil => simp [find, hr]
  | cons m t ih =>
    by_cases hm : same m n = true
    · simp [find, hm] at h
    · have e : find same (m :: t) n = find same t n + 1 := by simp only [find, hm]; rfl
      rw [e, List.length_cons] at h
      have := ih (by omega)
      simp only [List.cons_append, find, hm]
      simp [this]

/-- What an order of states is made with: where a byte leads, which are one. -/
structure Walk (σ : Type) where
  go : σ → Nat → Option σ
  same : σ → σ → Bool
  fin : σ → Bool

/-- One byte of a state. -/
def Walk.byte (W : Walk σ) (s : σ) (c : Nat) (p : List σ × List Arc) : List σ × List Arc :=
  match W.go s c with
  | none => p
  | some n => (if find W.same p.1 n = p.1.length then p.1 ++ [n] else p.1, grown p.2 c (find W.same p.1 n))
/-- Its first bytes. -/
def Walk.bytes (W : Walk σ) (s : σ) (met : List σ) : Nat → List σ × List Arc
  | 0 => (met, [])
  | c + 1 => W.byte s c (W.bytes s met c)
/-- The first states. -/
def Walk.states (W : Walk σ) (start : σ) : Nat → List σ × List St
  | 0 => ([start], [])
  | i + 1 =>
    match (W.states start i).1[i]? with
    | none => W.states start i
    | some s => ((W.bytes s (W.states start i).1 256).1, (W.states start i).2 ++ [⟨W.fin s, (W.bytes s (W.states start i).1 256).2⟩])

/-- Two lists, place by place. -/
inductive All2 (R : σ → τ → Prop) : List σ → List τ → Prop
  | nil : All2 R [] []
  | cons {a b l m} : R a b → All2 R l m → All2 R (a :: l) (b :: m)
theorem All2.length {R : σ → τ → Prop} {l : List σ} {m : List τ} (h : All2 R l m) : l.length = m.length := by
  induction h with
  | nil => rfl
  | cons _ _ ih => simp [ih]
theorem All2.snoc {R : σ → τ → Prop} {l : List σ} {m : List τ} (h : All2 R l m) {a : σ} {b : τ} (hab : R a b) : All2 R (l ++ [a]) (m ++ [b]) := by
  induction h with
  | nil => exact .cons hab .nil
  | cons h1 _ ih => exact .cons h1 ih
theorem All2.get {R : σ → τ → Prop} {l : List σ} {m : List τ} (h : All2 R l m) (i : Nat) : (l[i]? = none ∧ m[i]? = none) ∨ ∃ a b, l[i]? = some a ∧ m[i]? = some b ∧ R a b := by
  induction h generalizing i with
  | nil => left; simp
  | cons h1 _ ih =>
    cases i with
    | zero => right; exact ⟨_, _, rfl, rfl, h1⟩
    | succ i => simpa using ih i

/-- Two walks that go alike. -/
structure Alike (V : Walk σ) (W : Walk τ) (R : σ → τ → Prop) : Prop where
  fin : ∀ s t, R s t → V.fin s = W.fin t
  go : ∀ s t, R s t → ∀ c, (V.go s c = none ∧ W.go t c = none) ∨ ∃ s' t', V.go s c = some s' ∧ W.go t c = some t' ∧ R s' t'
  same : ∀ s t s' t', R s t → R s' t' → V.same s s' = W.same t t'
theorem Alike.find {V : Walk σ} {W : Walk τ} {R : σ → τ → Prop} (h : Alike V W R) {l : List σ} {m : List τ} (hl : All2 R l m) {a : σ} {b : τ} (hab : R a b) : Au.find V.same l a = Au.find W.same m b := by
  induction hl with
  | nil => rfl
  | cons h1 _ ih => simp only [Au.find]; rw [h.same _ _ _ _ h1 hab, ih]
theorem Alike.byte {V : Walk σ} {W : Walk τ} {R : σ → τ → Prop} (h : Alike V W R) {s : σ} {t : τ} (hst : R s t) (c : Nat) {p : List σ × List Arc} {q : List τ × List Arc} (h1 : All2 R p.1 q.1) (h2 : p.2 = q.2) :
    All2 R (V.byte s c p).1 (W.byte t c q).1 ∧ (V.byte s c p).2 = (W.byte t c q).2 := by
  unfold Walk.byte
  rcases h.go s t hst c with ⟨e1, e2⟩ | ⟨s', t', e1, e2, hr⟩
  · rw [e1, e2]
    exact ⟨h1, h2⟩
  · rw [e1, e2]
    dsimp only
    rw [h.find h1 hr, h1.length, h2]
    refine ⟨?_, rfl⟩
    split
    · exact h1.snoc hr
    · exact h1
theorem Alike.bytes {V : Walk σ} {W : Walk τ} {R : σ → τ → Prop} (h : Alike V W R) {s : σ} {t : τ} (hst : R s t) {l : List σ} {m : List τ} (hl : All2 R l m) (c : Nat) :
    All2 R (V.bytes s l c).1 (W.bytes t m c).1 ∧ (V.bytes s l c).2 = (W.bytes t m c).2 := by
  induction c with
  | zero => exact ⟨hl, rfl⟩
  | succ c ih => exact h.byte hst c ih.1 ih.2
theorem Alike.states {V : Walk σ} {W : Walk τ} {R : σ → τ → Prop} (h : Alike V W R) {s : σ} {t : τ} (hst : R s t) (i : Nat) :
    All2 R (V.states s i).1 (W.states t i).1 ∧ (V.states s i).2 = (W.states t i).2 := by
  induction i with
  | zero => exact ⟨.cons hst .nil, rfl⟩
  | succ i ih =>
    simp only [Walk.states]
    rcases ih.1.get i with ⟨e1, e2⟩ | ⟨a, b, e1, e2, hr⟩
    · rw [e1, e2]
      exact ih
    · rw [e1, e2]
      obtain ⟨h1, h2⟩ := h.bytes hr ih.1 256
      dsimp only
      rw [h2, ih.2, h.fin _ _ hr]
      exact ⟨h1, rfl⟩

/-- The walk of the least automaton. -/
noncomputable def Auto.walk (A : Auto σ) : Walk σ := ⟨A.go, A.same, A.fin⟩
end Au
end Go.Proofs.YthhfmcikfdagiaaDoor

/-
  Rows of arcs: what they lead to, that they are an automaton's; the least automaton takes what the first one takes.
-/
namespace Go.Proofs.YthhfmcikfdagiaaDoor
namespace Au
variable {σ τ : Type}

/-- Where the first arc that holds a number leads. -/
def look : List Arc → Int → Option Int
  | [], _ => none
  | a :: r, x => if a.lo ≤ x ∧ x ≤ a.hi then some a.to else look r x
theorem look_append (l r : List Arc) (x : Int) : look (l ++ r) x = (look l x).or (look r x) := by
  induction l with
  | nil => simp [look]
  | cons a t ih =>
    simp only [List.cons_append, look]
    split
    · simp
    · exact ih

/-- Arcs as 8.1 asks for them, of so many states, below byte c. -/
def Row (n : Nat) (c : Int) (l : List Arc) : Prop :=
  (∀ k (h : k < l.length), 0 ≤ l[k].lo ∧ l[k].lo ≤ l[k].hi ∧ l[k].hi < c ∧ 0 ≤ l[k].to ∧ l[k].to < n) ∧ ∀ k (h : k + 1 < l.length), l[k].hi < l[k + 1].lo
theorem Row.nil (n : Nat) (c : Int) : Row n c [] := ⟨fun k h => by simp at h, fun k h => by simp at h⟩
theorem Row.mono {n m : Nat} {c d : Int} {l : List Arc} (h : Row n c l) (hn : n ≤ m) (hc : c ≤ d) : Row m d l :=
  ⟨fun k hk => by have := h.1 k hk; omega, h.2⟩
theorem Row.snoc {n : Nat} {c d : Int} {l : List Arc} (h : Row n c l) (a : Arc) (h1 : 0 ≤ a.lo) (h2 : a.lo ≤ a.hi) (h3 : a.hi < d) (h4 : 0 ≤ a.to) (h5 : a.to < n) (h6 : ∀ k (hk : k < l.length), l[k].hi < a.lo) (hcd : c ≤ d) : Row n d (l ++ [a]) := by
  refine ⟨fun k hk => ?_, fun k hk => ?_⟩
  · rw [List.length_append] at hk
    by_cases hl : k < l.length
    · have := h.1 k hl
      rw [List.getElem_append_left hl]
      omega
    · have e : k = l.length := by simp at hk; omega
      subst e
      simp
      omega
  · rw [List.length_append] at hk
    simp only [List.length_cons, List.length_nil] at hk
    by_cases hl : k + 1 < l.length
    · rw [List.getElem_append_left (by omega), List.getElem_append_left hl]
      exact h.2 k hl
    · have e : k + 1 = l.length := by omega
      have h7 := h6 k (by omega)
      rw [List.getElem_append_left (by omega)]
      simp only [e, List.getElem_append_right (Nat.le_refl _), Nat.sub_self, List.getElem_cons_zero]
      exact h7
theorem Row.init {n : Nat} {c : Int} {l : List Arc} {a : Arc} (h : Row n c (l ++ [a])) : Row n c l ∧ (0 ≤ a.lo ∧ a.lo ≤ a.hi ∧ a.hi < c ∧ 0 ≤ a.to ∧ a.to < n) ∧ ∀ k (hk : k < l.length), l[k].hi < a.lo := by
  have hlen : (l ++ [a]).length = l.length + 1 := by simp
  refine ⟨⟨fun k hk => ?_, fun k hk => ?_⟩, ?_, ?_⟩
  · have := h.1 k (by omega)
    rwa [List.getElem_append_left hk] at this
  · have := h.2 k (by omega)
    rwa [List.getElem_append_left (by omega), List.getElem_append_left hk] at this
  · have := h.1 l.length (by omega)
    simpa using this
  · intro k hk
    have main : ∀ d k, k + d + 1 = l.length → ∀ (hk : k < l.length), l[k].hi < a.lo := by
      intro d
      induction d with
      | zero =>
        intro k e hk
        have h1 := h.2 k (by omega)
        have e' : k + 1 = l.length := by omega
        simp only [List.getElem_append_left hk, e', List.getElem_append_right (Nat.le_refl _), Nat.sub_self, List.getElem_cons_zero] at h1
        exact h1
      | succ d ih =>
        intro k e hk
        have h1 := ih (k + 1) (by omega) (by omega)
        have h2 := h.2 k (by omega)
        rw [List.getElem_append_left hk, List.getElem_append_left (by omega)] at h2
        have h3 := h.1 (k + 1) (by omega)
        rw [List.getElem_append_left (by omega)] at h3
        omega
    exact main (l.length - k - 1) k (by omega) hk

theorem look_above {n : Nat} {c : Int} {l : List Arc} (h : Row n c l) (x : Int) (hx : c ≤ x) : look l x = none := by
  induction l with
  | nil => rfl
  | cons a r ih =>
    simp only [look]
    have h0 := h.1 0 (by simp)
    simp only [List.getElem_cons_zero] at h0
    rw [if_neg (by omega)]
    apply ih
    exact ⟨fun k hk => by have := h.1 (k + 1) (by simp; omega); simpa using this, fun k hk => by have := h.2 (k + 1) (by simp; omega); simpa using this⟩

theorem last_cases (l : List Arc) : l = [] ∨ ∃ r a, l = r ++ [a] := by
  rcases List.eq_nil_or_concat l with h | ⟨r, a, h⟩
  · exact .inl h
  · exact .inr ⟨r, a, by rw [h, List.concat_eq_append]⟩
theorem grown_snoc (r : List Arc) (a : Arc) (c k : Nat) : grown (r ++ [a]) c k = if a.hi = (c : Int) - 1 ∧ a.to = (k : Int) then r ++ [⟨a.lo, c, k⟩] else r ++ [a] ++ [⟨c, c, k⟩] := by
  unfold grown
  simp
theorem grown_nil (c k : Nat) : grown [] c k = [⟨c, c, k⟩] := rfl
theorem grown_row {n : Nat} {l : List Arc} {c k : Nat} (h : Row n c l) (hk : k < n) : Row n (c + 1) (grown l c k) := by
  rcases last_cases l with rfl | ⟨r, a, rfl⟩
  · rw [grown_nil]
    exact (Row.nil n 0).snoc ⟨c, c, k⟩ (by simp) (by simp) (by simp; omega) (by simp) (by simp; omega) (fun k hk => by simp at hk) (by omega)
  · rw [grown_snoc]
    obtain ⟨h1, h2, h3⟩ := h.init
    split
    · exact h1.snoc ⟨a.lo, c, k⟩ (by simp; omega) (by simp; omega) (by simp; omega) (by simp) (by simp; omega) h3 (by omega)
    · refine h.snoc ⟨c, c, k⟩ (by simp) (by simp) (by simp; omega) (by simp) (by simp; omega) (fun j hj => ?_) (by omega)
      have := (h.1 j hj).2.2.1
      simpa using this
theorem grown_look {n : Nat} {l : List Arc} {c k : Nat} (h : Row n c l) (x : Int) : look (grown l c k) x = if x = c then some (k : Int) else look l x := by
  rcases last_cases l with rfl | ⟨r, a, rfl⟩
  · rw [grown_nil]
    simp only [look]
    by_cases hx : x = c
    · rw [if_pos hx, if_pos (by omega)]
    · rw [if_neg hx, if_neg (by omega)]
  · rw [grown_snoc]
    obtain ⟨h1, h2, h3⟩ := h.init
    split
    · rename_i hc
      rw [look_append, look_append]
      by_cases hx : x = c
      · rw [if_pos hx]
        have : look r x = none := by
          apply look_above (c := a.lo) (n := n) ⟨fun k hk => ?_, h1.2⟩
          · omega
          · have := h1.1 k hk
            have := h3 k hk
            omega
        rw [this]
        simp only [look]
        rw [if_pos (by omega)]
        rfl
      · rw [if_neg hx]
        congr 1
        simp only [look]
        by_cases hy : a.lo ≤ x ∧ x ≤ a.hi
        · rw [if_pos hy, if_pos (by omega), hc.2]
        · rw [if_neg hy, if_neg (by omega)]
    · rw [look_append _ [_]]
      by_cases hx : x = c
      · rw [if_pos hx, look_above h x (by omega)]
        simp only [look]
        rw [if_pos (by omega)]
        rfl
      · rw [if_neg hx]
        simp only [look]
        rw [if_neg (by omega)]
        simp

/-- An automaton out of rows. -/
def ofL (d : List St) : Auto Nat where
  step := fun i c => match d[i]? with
    | none => none
    | some s => (look s.arcs c).map Int.toNat
  fin := fun i => match d[i]? with
    | none => false
    | some s => s.fin

/-- How far the states met go. -/
def Walk.met (W : Walk σ) (s : σ) (i : Nat) : List σ := (W.states s i).1
def Walk.out (W : Walk σ) (s : σ) (i : Nat) : List St := (W.states s i).2
/-- All states are met. -/
def Walk.Done (W : Walk σ) (s : σ) (i : Nat) : Prop := (W.met s i).length ≤ i

theorem byte_grows (W : Walk σ) (s : σ) (c : Nat) (p : List σ × List Arc) : ∃ r, (W.byte s c p).1 = p.1 ++ r := by
  unfold Walk.byte
  split
  · exact ⟨[], by simp⟩
  · dsimp only
    split
    · exact ⟨_, rfl⟩
    · exact ⟨[], by simp⟩
theorem bytes_grows (W : Walk σ) (s : σ) (m : List σ) (c : Nat) : ∃ r, (W.bytes s m c).1 = m ++ r := by
  induction c with
  | zero => exact ⟨[], by simp [Walk.bytes]⟩
  | succ c ih =>
    obtain ⟨r, h⟩ := ih
    obtain ⟨t, g⟩ := byte_grows W s c (W.bytes s m c)
    exact ⟨r ++ t, by rw [Walk.bytes, g, h, List.append_assoc]⟩
theorem met_grows (W : Walk σ) (s : σ) (i : Nat) : ∃ r, W.met s (i + 1) = W.met s i ++ r := by
  unfold Walk.met
  simp only [Walk.states]
  split
  · exact ⟨[], by simp⟩
  · exact bytes_grows W _ _ 256
theorem met_mono (W : Walk σ) (s : σ) (i j : Nat) : ∃ r, W.met s (i + j) = W.met s i ++ r := by
  induction j with
  | zero => exact ⟨[], by simp⟩
  | succ j ih =>
    obtain ⟨r, h⟩ := ih
    obtain ⟨t, g⟩ := met_grows W s (i + j)
    exact ⟨r ++ t, by rw [← Nat.add_assoc, g, h, List.append_assoc]⟩
theorem done_stays (W : Walk σ) (s : σ) (i j : Nat) (h : W.Done s i) : W.states s (i + j) = W.states s i := by
  induction j with
  | zero => rfl
  | succ j ih =>
    rw [← Nat.add_assoc, Walk.states, ih]
    have : (W.states s i).1[i + j]? = none := List.getElem?_eq_none (by unfold Walk.Done Walk.met at h; omega)
    rw [this]
theorem done_same (W : Walk σ) (s : σ) (i j : Nat) (hi : W.Done s i) (hj : W.Done s j) : W.states s i = W.states s j := by
  rcases Nat.le_total i j with h | h
  · obtain ⟨d, rfl⟩ : ∃ d, j = i + d := ⟨j - i, by omega⟩
    exact (done_stays W s i d hi).symm
  · obtain ⟨d, rfl⟩ : ∃ d, i = j + d := ⟨i - j, by omega⟩
    exact done_stays W s j d hj
theorem out_length (W : Walk σ) (s : σ) (i : Nat) : (W.out s i).length = min i (W.met s i).length := by
  induction i with
  | zero => simp [Walk.out, Walk.states]
  | succ i ih =>
    obtain ⟨r, hr⟩ := met_grows W s i
    have hl := congrArg List.length hr
    rw [List.length_append] at hl
    unfold Walk.out Walk.met at *
    simp only [Walk.states] at hl ⊢
    split
    · rename_i hn
      rw [hn] at hl
      have : (W.states s i).1.length ≤ i := List.getElem?_eq_none_iff.1 hn
      dsimp only at hl
      omega
    · rename_i a ha
      have : i < (W.states s i).1.length := (List.getElem?_eq_some_iff.1 ha).1
      rw [ha] at hl
      dsimp only at hl ⊢
      rw [List.length_append, ih]
      simp
      omega
end Au
end Go.Proofs.YthhfmcikfdagiaaDoor

/-
  What the states met in order take: what the first automaton takes; how many they may be.
-/
namespace Go.Proofs.YthhfmcikfdagiaaDoor
namespace Au
variable {σ τ : Type}

/-- What a row of arcs says of a state, where the states that were met are these. -/
structure Told (W : Walk σ) (met : List σ) (s : σ) (c : Nat) (arcs : List Arc) : Prop where
  row : Row met.length c arcs
  look : ∀ x, x < c → look arcs (x : Int) = (W.go s x).map (fun n => ((find W.same met n : Nat) : Int))
  found : ∀ x n, x < c → W.go s x = some n → find W.same met n < met.length
theorem Told.more {W : Walk σ} {met : List σ} {s : σ} {c : Nat} {arcs : List Arc} (h : Told W met s c arcs) (r : List σ) : Told W (met ++ r) s c arcs where
  row := h.row.mono (by simp) (Int.le_refl _)
  look := fun x hx => by
    rw [h.look x hx]
    cases hg : W.go s x with
    | none => rfl
    | some n =>
      simp only [Option.map_some]
      rw [find_append _ _ _ _ (h.found x n hx hg)]
  found := fun x n hx hg => by
    have := h.found x n hx hg
    rw [find_append _ _ _ _ this, List.length_append]
    omega
theorem bytes_told (W : Walk σ) (hr : ∀ s, W.same s s = true) (s : σ) (met : List σ) (c : Nat) : Told W (W.bytes s met c).1 s c (W.bytes s met c).2 := by
  induction c with
  | zero => exact ⟨Row.nil _ _, fun x hx => by omega, fun x n hx => by omega⟩
  | succ c ih =>
    simp only [Walk.bytes]
    generalize W.bytes s met c = p at *
    unfold Walk.byte
    cases hg : W.go s c with
    | none =>
      refine ⟨ih.row.mono (Nat.le_refl _) (by omega), fun x hx => ?_, fun x n hx hn => ?_⟩
      · by_cases hxc : x = c
        · subst hxc
          rw [hg, look_above ih.row _ (Int.le_refl _)]
          rfl
        · exact ih.look x (by omega)
      · by_cases hxc : x = c
        · subst hxc
          rw [hg] at hn
          cases hn
        · exact ih.found x n (by omega) hn
    | some n =>
      dsimp only
      have key : ∀ met' : List σ, (∃ r, met' = p.1 ++ r) → find W.same met' n = find W.same p.1 n → find W.same p.1 n < met'.length → Told W met' s (c + 1) (grown p.2 c (find W.same p.1 n)) := by
        rintro met' ⟨r, rfl⟩ h1 h2
        have ih' := ih.more r
        have hrow : Row (p.1 ++ r).length ((c : Int) + 1) (grown p.2 c (find W.same p.1 n)) := grown_row ih'.row h2
        refine ⟨hrow, fun x hx => ?_, fun x m hx hm => ?_⟩
        · rw [grown_look ih'.row]
          by_cases hxc : x = c
          · subst hxc
            rw [if_pos rfl, hg, Option.map_some, h1]
          · rw [if_neg (by omega)]
            exact ih'.look x (by omega)
        · by_cases hxc : x = c
          · subst hxc
            rw [hg] at hm
            cases hm
            rw [h1]
            exact h2
          · exact ih'.found x m (by omega) hm
      by_cases hf : find W.same p.1 n = p.1.length
      · rw [if_pos hf]
        refine key _ ⟨[n], rfl⟩ ?_ ?_
        · rw [find_snoc _ hr _ _ hf, hf]
        · rw [hf]; simp
      · rw [if_neg hf]
        have := find_le W.same p.1 n
        exact key _ ⟨[], by simp⟩ rfl (by omega)

/-- Each state that has been told of. -/
theorem states_told (W : Walk σ) (hr : ∀ s, W.same s s = true) (s : σ) (i k : Nat) (hk : k < (W.out s i).length) :
    ∃ a arcs, (W.met s i)[k]? = some a ∧ (W.out s i)[k]? = some ⟨W.fin a, arcs⟩ ∧ Told W (W.met s i) a 256 arcs := by
  induction i with
  | zero => simp [Walk.out, Walk.states] at hk
  | succ i ih =>
    have hol := out_length W s i
    unfold Walk.out Walk.met at *
    simp only [Walk.states] at hk ⊢
    cases hi : (W.states s i).1[i]? with
    | none =>
      rw [hi] at hk
      exact ih hk
    | some b =>
      rw [hi] at hk
      dsimp only at hk ⊢
      obtain ⟨r, hbr⟩ := bytes_grows W b (W.states s i).1 256
      have hilt : i < (W.states s i).1.length := (List.getElem?_eq_some_iff.1 hi).1
      have hoi : (W.states s i).2.length = i := by omega
      by_cases hki : k < (W.states s i).2.length
      · obtain ⟨a, arcs, h1, h2, h3⟩ := ih hki
        have hkm : k < (W.states s i).1.length := (List.getElem?_eq_some_iff.1 h1).1
        refine ⟨a, arcs, ?_, ?_, ?_⟩
        · rw [hbr, List.getElem?_append_left hkm]
          exact h1
        · rw [List.getElem?_append_left hki]
          exact h2
        · rw [hbr]
          exact h3.more r
      · rw [List.length_append] at hk
        simp only [List.length_cons, List.length_nil] at hk
        have e : k = i := by omega
        subst e
        refine ⟨b, _, ?_, ?_, bytes_told W hr b (W.states s k).1 256⟩
        · rw [hbr, List.getElem?_append_left hilt]
          exact hi
        · rw [List.getElem?_append_right (by omega), hoi, Nat.sub_self]
          rfl

/-- A walk that goes as an automaton does, but for states from which nothing is taken. -/
structure Fair (W : Walk σ) (A : Auto σ) : Prop where
  fin : ∀ s, W.fin s = A.fin s
  go : ∀ s c, (W.go s c = none ∧ Dead A (A.step s c)) ∨ ∃ t, W.go s c = some t ∧ A.step s c = some t
  refl : ∀ s, W.same s s = true
  same : ∀ s t, W.same s t = true → Eqv A A s t
  top : ∀ s c, 256 ≤ c → Dead A (A.step s c)

theorem Fair.takes {W : Walk σ} {A : Auto σ} (h : Fair W A) (s : σ) (i : Nat) (hd : W.Done s i) (w : List Nat) (k : Nat) (a : σ) (hk : (W.met s i)[k]? = some a) : (ofL (W.out s i)).acc (some k) w = A.acc (some a) w := by
  have hol := out_length W s i
  unfold Walk.Done at hd
  have hkl : k < (W.met s i).length := (List.getElem?_eq_some_iff.1 hk).1
  induction w generalizing k a with
  | nil =>
    obtain ⟨b, arcs, h1, h2, _⟩ := states_told W h.refl s i k (by omega)
    rw [hk] at h1
    cases h1
    simp only [acc_nil, ofL, h2]
    exact h.fin a
  | cons c w ih =>
    obtain ⟨b, arcs, h1, h2, h3⟩ := states_told W h.refl s i k (by omega)
    rw [hk] at h1
    cases h1
    rw [acc_cons, acc_cons]
    have hs : (ofL (W.out s i)).step k c = (look arcs c).map Int.toNat := by
      simp only [ofL, h2]
    rw [hs]
    by_cases hc : c < 256
    · rw [h3.look c hc]
      rcases h.go a c with ⟨g1, g2⟩ | ⟨t, g1, g2⟩
      · rw [g1, Option.map_none, Option.map_none, acc_none]
        exact (g2 w).symm
      · have hf := h3.found c t hc g1
        rw [g1, Option.map_some, Option.map_some, Int.toNat_natCast, g2, ih _ ((W.met s i)[find W.same (W.met s i) t]) (List.getElem?_eq_getElem hf) hf]
        exact h.same _ _ (find_hit W.same (W.met s i) t hf) w
    · have : look arcs (c : Int) = none := look_above h3.row _ (by omega)
      rw [this]
      simp only [Option.map_none, acc_none]
      exact (h.top a c (by omega) w).symm

theorem fair_walk (A : Auto σ) (top : ∀ s c, 256 ≤ c → A.step s c = none) : Fair A.walk A where
  fin := fun _ => rfl
  go := fun s c => by
    show (A.go s c = none ∧ _) ∨ ∃ t, A.go s c = some t ∧ _
    cases h : A.go s c with
    | none => exact .inl ⟨rfl, go_none h⟩
    | some t => exact .inr ⟨t, rfl, (go_some h).1⟩
  refl := fun s => (same_iff A s s).2 (Eqv.refl A s)
  same := fun s t h => (same_iff A s t).1 h
  top := fun s c h w => by rw [top s c h]; exact acc_none A w

/-- The states met are no two the same. -/
theorem byte_pair (W : Walk σ) (s : σ) (c : Nat) (p : List σ × List Arc) (h : p.1.Pairwise (fun a b => W.same a b = false)) : (W.byte s c p).1.Pairwise (fun a b => W.same a b = false) := by
  unfold Walk.byte
  split
  · exact h
  · rename_i n hn
    dsimp only
    split
    · rename_i hf
      rw [List.pairwise_append]
      refine ⟨h, List.pairwise_singleton _ _, fun a ha b hb => ?_⟩
      rw [List.mem_singleton] at hb
      subst hb
      obtain ⟨k, hk, rfl⟩ := List.getElem_of_mem ha
      exact (find_miss W.same p.1 b k (by omega)).2
    · exact h
theorem bytes_pair (W : Walk σ) (s : σ) (m : List σ) (c : Nat) (h : m.Pairwise (fun a b => W.same a b = false)) : (W.bytes s m c).1.Pairwise (fun a b => W.same a b = false) := by
  induction c with
  | zero => exact h
  | succ c ih => exact byte_pair W s c _ ih
theorem met_pair (W : Walk σ) (s : σ) (i : Nat) : (W.met s i).Pairwise (fun a b => W.same a b = false) := by
  induction i with
  | zero => exact List.pairwise_singleton _ _
  | succ i ih =>
    unfold Walk.met at *
    simp only [Walk.states]
    split
    · exact ih
    · exact bytes_pair W _ _ 256 ih
/-- They are all of a set that is never left. -/
theorem byte_all (W : Walk σ) (P : σ → Prop) (hP : ∀ s c t, P s → W.go s c = some t → P t) (s : σ) (hs : P s) (c : Nat) (p : List σ × List Arc) (h : ∀ x ∈ p.1, P x) : ∀ x ∈ (W.byte s c p).1, P x := by
  unfold Walk.byte
  split
  · exact h
  · rename_i n hn
    dsimp only
    split
    · intro x hx
      rw [List.mem_append, List.mem_singleton] at hx
      rcases hx with hx | rfl
      · exact h x hx
      · exact hP s c x hs hn
    · exact h
theorem bytes_all (W : Walk σ) (P : σ → Prop) (hP : ∀ s c t, P s → W.go s c = some t → P t) (s : σ) (hs : P s) (m : List σ) (c : Nat) (h : ∀ x ∈ m, P x) : ∀ x ∈ (W.bytes s m c).1, P x := by
  induction c with
  | zero => exact h
  | succ c ih => exact byte_all W P hP s hs c _ ih
theorem met_all (W : Walk σ) (P : σ → Prop) (hP : ∀ s c t, P s → W.go s c = some t → P t) (s : σ) (hs : P s) (i : Nat) : ∀ x ∈ W.met s i, P x := by
  induction i with
  | zero =>
    intro x hx
    have : x = s := by simpa [Walk.met, Walk.states] using hx
    rw [this]
    exact hs
  | succ i ih =>
    unfold Walk.met at *
    simp only [Walk.states]
    split
    · exact ih
    · rename_i a ha
      exact bytes_all W P hP a (ih a (List.mem_of_getElem? ha)) _ 256 ih
/-- No more of them than numbers that tell them apart. -/
theorem met_few (W : Walk σ) (hr : ∀ s, W.same s s = true) (f : σ → Nat) (n : Nat) (P : σ → Prop) (hP : ∀ s c t, P s → W.go s c = some t → P t) (s : σ) (hs : P s) (hf : ∀ x, P x → f x < n) (hi : ∀ x y, P x → P y → f x = f y → x = y) (i : Nat) : (W.met s i).length ≤ n := by
  have h1 := met_pair W s i
  have h2 := met_all W P hP s hs i
  have hn : ((W.met s i).map f).Nodup := by
    unfold List.Nodup
    rw [List.pairwise_map]
    refine List.Pairwise.imp_of_mem (fun {a b} ha hb hab e => ?_) h1
    have := hi a b (h2 a ha) (h2 b hb) e
    subst this
    rw [hr] at hab
    cases hab
  have hsub : (W.met s i).map f ⊆ List.range n := fun x hx => by
    obtain ⟨a, ha, rfl⟩ := List.mem_map.1 hx
    exact List.mem_range.2 (hf a (h2 a ha))
  have := hn.length_le_of_subset hsub
  simpa using this

end Au
end Go.Proofs.YthhfmcikfdagiaaDoor

/-
  Lists of states: which are automata; the least one of one; of what two take.
-/
namespace Go.Proofs.YthhfmcikfdagiaaDoor
namespace Au
variable {σ τ : Type}

/-- A list of states is an automaton. -/
structure Fits (d : List St) : Prop where
  pos : 0 < d.length
  top : d.length ≤ 20000
  row : ∀ i (h : i < d.length), Row d.length 256 d[i].arcs

theorem look_in {n : Nat} {l : List Arc} (h : ∀ k (h : k < l.length), 0 ≤ l[k].to ∧ l[k].to < n) {x t : Int} (hx : look l x = some t) : 0 ≤ t ∧ t < n := by
  induction l with
  | nil => cases hx
  | cons a r ih =>
    simp only [look] at hx
    split at hx
    · cases hx
      exact h 0 (by simp)
    · exact ih (fun k hk => by have := h (k + 1) (by simp; omega); simpa using this) hx
theorem ofL_top {d : List St} (hr : ∀ i (h : i < d.length), Row d.length 256 d[i].arcs) (s c : Nat) (hc : 256 ≤ c) : (ofL d).step s c = none := by
  simp only [ofL]
  split
  · rfl
  · rename_i a ha
    obtain ⟨hl, rfl⟩ := List.getElem?_eq_some_iff.1 ha
    rw [look_above (hr s hl) _ (by omega)]
    rfl
theorem ofL_in {d : List St} (hr : ∀ i (h : i < d.length), Row d.length 256 d[i].arcs) {s c t : Nat} (h : (ofL d).step s c = some t) : t < d.length := by
  simp only [ofL] at h
  split at h
  · cases h
  · rename_i a ha
    obtain ⟨hl, rfl⟩ := List.getElem?_eq_some_iff.1 ha
    cases hx : look d[s].arcs c with
    | none => rw [hx] at h; cases h
    | some u =>
      rw [hx] at h
      cases h
      have := look_in (n := d.length) (fun k hk => by have := (hr s hl).1 k hk; omega) hx
      omega

/-- The least automaton that takes the same. -/
noncomputable def least (d : List St) : List St := (ofL d).walk.out 0 d.length
theorem go_in {d : List St} (hr : ∀ i (h : i < d.length), Row d.length 256 d[i].arcs) (s c t : Nat) (_ : s < d.length) (h : (ofL d).walk.go s c = some t) : t < d.length := ofL_in hr (go_some h).1
theorem least_done {d : List St} (h0 : 0 < d.length) (hr : ∀ i (h : i < d.length), Row d.length 256 d[i].arcs) : (ofL d).walk.Done 0 d.length :=
  met_few (ofL d).walk (fair_walk _ (ofL_top hr)).refl id d.length (fun x => x < d.length) (go_in hr) 0 h0 (fun _ h => h) (fun _ _ _ _ h => h) d.length
theorem out_pos (W : Walk σ) (s : σ) (i : Nat) : 0 < (W.met s i).length := by
  obtain ⟨r, h⟩ := met_mono W s 0 i
  rw [Nat.zero_add] at h
  rw [h]
  simp [Walk.met, Walk.states]
theorem out_rows (W : Walk σ) (hr : ∀ s, W.same s s = true) (s : σ) (i : Nat) (hd : W.Done s i) : 0 < (W.out s i).length ∧ ∀ k (h : k < (W.out s i).length), Row (W.out s i).length 256 (W.out s i)[k].arcs := by
  have hol := out_length W s i
  have h0 := out_pos W s i
  unfold Walk.Done at hd
  have hl : (W.out s i).length = (W.met s i).length := by omega
  refine ⟨by omega, fun k hk => ?_⟩
  obtain ⟨a, arcs, h1, h2, h3⟩ := states_told W hr s i k hk
  obtain ⟨_, h4⟩ := List.getElem?_eq_some_iff.1 h2
  rw [h4, hl]
  exact h3.row
theorem start_first (W : Walk σ) (s : σ) (i : Nat) : (W.met s i)[0]? = some s := by
  obtain ⟨r, h⟩ := met_mono W s 0 i
  rw [Nat.zero_add] at h
  rw [h]
  simp [Walk.met, Walk.states]
/-- It takes the same. -/
theorem Fair.eqv {W : Walk σ} {A : Auto σ} (h : Fair W A) (s : σ) (i : Nat) (hd : W.Done s i) : Eqv (ofL (W.out s i)) A 0 s := fun w => h.takes s i hd w 0 s (start_first W s i)
theorem least_eqv {d : List St} (h0 : 0 < d.length) (hr : ∀ i (h : i < d.length), Row d.length 256 d[i].arcs) : Eqv (ofL (least d)) (ofL d) 0 0 :=
  (fair_walk _ (ofL_top hr)).eqv 0 d.length (least_done h0 hr)
theorem least_le (d : List St) : (least d).length ≤ d.length := by
  have := out_length (ofL d).walk 0 d.length
  unfold least
  omega
theorem least_fits {d : List St} (h : Fits d) : Fits (least d) := by
  obtain ⟨h1, h2⟩ := out_rows (ofL d).walk (fair_walk _ (ofL_top h.row)).refl 0 d.length (least_done h.pos h.row)
  exact ⟨h1, Nat.le_trans (least_le d) h.top, h2⟩
/-- A walk that takes each state as itself. -/
def Auto.plain [DecidableEq σ] (A : Auto σ) : Walk σ := ⟨A.step, fun a b => decide (a = b), A.fin⟩
theorem plain_fair [DecidableEq σ] (A : Auto σ) (top : ∀ s c, 256 ≤ c → A.step s c = none) : Fair A.plain A where
  fin := fun _ => rfl
  go := fun s c => by
    show (A.step s c = none ∧ _) ∨ ∃ t, A.step s c = some t ∧ _
    cases h : A.step s c with
    | none => exact .inl ⟨rfl, acc_none A⟩
    | some t => exact .inr ⟨t, rfl, rfl⟩
  refl := fun s => decide_eq_true rfl
  same := fun s t h => by
    have := of_decide_eq_true h
    rw [this]
    exact Eqv.refl A t
  top := fun s c h w => by rw [top s c h]; exact acc_none A w

end Au
end Go.Proofs.YthhfmcikfdagiaaDoor

/-
  Loose automata: what they lead to by nothing, the sets of states that are met, what is taken.
-/
namespace Go.Proofs.YthhfmcikfdagiaaDoor
namespace Au

/-- A loose state. -/
structure Lo where
  fin : Bool
  arcs : List Arc
  free : List Int
  deriving DecidableEq

/-- A list of loose states that may be. -/
structure May (n : List Lo) : Prop where
  pos : 0 < n.length
  arc : ∀ i (h : i < n.length), ∀ a ∈ n[i].arcs, 0 ≤ a.lo ∧ a.lo ≤ a.hi ∧ a.hi ≤ 255 ∧ 0 ≤ a.to ∧ a.to < n.length
  free : ∀ i (h : i < n.length), ∀ f ∈ n[i].free, 0 ≤ f ∧ f < n.length

/-- Is a state in a set? -/
def has (S : List Bool) (i : Nat) : Prop := S[i]? = some true
/-- What a state leads to by nothing, on and on. -/
inductive Star (n : List Lo) (i : Nat) : Nat → Prop
  | refl : Star n i i
  | step {j : Nat} {s : Lo} {f : Int} : Star n i j → n[j]? = some s → f ∈ s.free → Star n i f.toNat
theorem Star.trans {n : List Lo} {i j k : Nat} (h : Star n i j) (g : Star n j k) : Star n i k := by
  induction g with
  | refl => exact h
  | step _ h1 h2 ih => exact .step ih h1 h2

open Classical in
/-- The set of what is so. -/
noncomputable def setOf (m : Nat) (P : Nat → Prop) : List Bool := (List.range m).map (fun i => decide (P i))
theorem setOf_length (m : Nat) (P : Nat → Prop) : (setOf m P).length = m := by simp [setOf]
theorem has_setOf (m : Nat) (P : Nat → Prop) (i : Nat) : has (setOf m P) i ↔ i < m ∧ P i := by
  unfold has setOf
  rw [List.getElem?_map]
  by_cases h : i < m
  · rw [List.getElem?_range h]
    simp [h]
  · rw [List.getElem?_eq_none (by simp; omega)]
    simp [h]
/-- Two sets of one length that have the same are one. -/
theorem set_ext {S T : List Bool} (hl : S.length = T.length) (h : ∀ i, has S i ↔ has T i) : S = T := by
  apply List.ext_getElem? 
  intro i
  have hi := h i
  unfold has at hi
  cases hs : S[i]? with
  | none =>
    have : T.length ≤ i := by rw [← hl]; exact List.getElem?_eq_none_iff.1 hs
    exact (List.getElem?_eq_none this).symm
  | some a =>
    have h1 : i < T.length := by rw [← hl]; exact (List.getElem?_eq_some_iff.1 hs).1
    rw [List.getElem?_eq_getElem h1]
    rw [hs, List.getElem?_eq_getElem h1] at hi
    congr 1
    cases a <;> cases hb : T[i] <;> simp_all

/-- A set, and what it leads to by nothing. -/
noncomputable def spread (n : List Lo) (S : List Bool) : List Bool := setOf n.length (fun i => ∃ j, has S j ∧ Star n j i)
/-- What one byte leads a set to. -/
def leads (n : List Lo) (S : List Bool) (c : Nat) (j : Nat) : Prop := ∃ k s a, has S k ∧ n[k]? = some s ∧ a ∈ s.arcs ∧ a.lo ≤ (c : Int) ∧ (c : Int) ≤ a.hi ∧ a.to.toNat = j
noncomputable def over (n : List Lo) (S : List Bool) (c : Nat) : List Bool := spread n (setOf n.length (leads n S c))
/-- The start's set. -/
noncomputable def first (n : List Lo) : List Bool := spread n (setOf n.length (fun i => i = 0))
open Classical in
/-- Is one of a set final? -/
noncomputable def ends (n : List Lo) (S : List Bool) : Bool := decide (∃ i s, has S i ∧ n[i]? = some s ∧ s.fin = true)
open Classical in
/-- Is a set empty? -/
noncomputable def empty (S : List Bool) : Bool := decide (∀ i, ¬ has S i)
theorem empty_iff (S : List Bool) : empty S = true ↔ ∀ i, ¬ has S i := by simp [empty]
theorem ends_iff (n : List Lo) (S : List Bool) : ends n S = true ↔ ∃ i s, has S i ∧ n[i]? = some s ∧ s.fin = true := by simp [ends]

theorem over_length (n : List Lo) (S : List Bool) (c : Nat) : (over n S c).length = n.length := setOf_length _ _
theorem first_length (n : List Lo) : (first n).length = n.length := setOf_length _ _
theorem spread_empty (n : List Lo) (S : List Bool) (h : ∀ i, ¬ has S i) : ∀ i, ¬ has (spread n S) i := by
  intro i hi
  obtain ⟨_, j, hj, _⟩ := (has_setOf _ _ _).1 hi
  exact h j hj
theorem over_empty (n : List Lo) (S : List Bool) (c : Nat) (h : ∀ i, ¬ has S i) : ∀ i, ¬ has (over n S c) i := by
  apply spread_empty
  intro i hi
  obtain ⟨_, k, s, a, hk, _⟩ := (has_setOf _ _ _).1 hi
  exact h k hk

/-- The automaton of the sets that are not empty. -/
noncomputable def sub (n : List Lo) : Auto (List Bool) where
  step := fun S c => if empty (over n S c) = true then none else some (over n S c)
  fin := ends n
/-- What a loose automaton takes. -/
noncomputable def takes (n : List Lo) (S : List Bool) (w : List Nat) : Bool := ends n (w.foldl (over n) S)
theorem takes_empty (n : List Lo) (S : List Bool) (h : ∀ i, ¬ has S i) (w : List Nat) : takes n S w = false := by
  induction w generalizing S with
  | nil =>
    unfold takes
    rw [← Bool.not_eq_true, List.foldl_nil, ends_iff]
    rintro ⟨i, s, hi, _⟩
    exact h i hi
  | cons c w ih => exact ih (over n S c) (over_empty n S c h)
theorem sub_takes (n : List Lo) (S : List Bool) (w : List Nat) : (sub n).acc (some S) w = takes n S w := by
  induction w generalizing S with
  | nil => rfl
  | cons c w ih =>
    rw [acc_cons]
    change (sub n).acc (if empty (over n S c) = true then none else some (over n S c)) w = takes n (over n S c) w
    by_cases h : empty (over n S c) = true
    · rw [if_pos h, acc_none, takes_empty n _ ((empty_iff _).1 h)]
    · rw [if_neg h]
      exact ih _
theorem sub_top {n : List Lo} (hn : May n) (S : List Bool) (c : Nat) (hc : 256 ≤ c) : (sub n).step S c = none := by
  change (if empty (over n S c) = true then none else some (over n S c)) = none
  rw [if_pos]
  rw [empty_iff]
  apply spread_empty
  intro i hi
  obtain ⟨_, k, s, a, hk, hs, ha, _, h2, _⟩ := (has_setOf _ _ _).1 hi
  obtain ⟨hl, rfl⟩ := List.getElem?_eq_some_iff.1 hs
  have := hn.arc k hl a ha
  omega

/-- No more sets than so many are met. -/
def Few (n : List Lo) (most : Int) (i : Nat) : Prop := (sub n).plain.Done (first n) i ∧ ((sub n).plain.met (first n) i).length ≤ most
open Classical in
/-- The least automaton of a loose one, if no more sets are met. -/
noncomputable def tight (n : List Lo) (most : Int) : Option (List St) := if h : ∃ i, Few n most i then some (least ((sub n).plain.out (first n) (Classical.choose h))) else none
theorem tight_some {n : List Lo} {most : Int} {i : Nat} (h : Few n most i) : tight n most = some (least ((sub n).plain.out (first n) i)) := by
  unfold tight
  have hx : ∃ i, Few n most i := ⟨i, h⟩
  rw [dif_pos hx]
  have := done_same (sub n).plain (first n) _ i (Classical.choose_spec hx).1 h.1
  unfold Walk.out
  rw [this]
theorem met_le {σ : Type} (W : Walk σ) (s : σ) (i j : Nat) (hj : W.Done s j) : (W.met s i).length ≤ (W.met s j).length := by
  rcases Nat.le_total i j with h | h
  · obtain ⟨d, rfl⟩ : ∃ d, j = i + d := ⟨j - i, by omega⟩
    obtain ⟨r, hr⟩ := met_mono W s i d
    rw [hr, List.length_append]
    omega
  · obtain ⟨d, rfl⟩ : ∃ d, i = j + d := ⟨i - j, by omega⟩
    unfold Walk.met
    rw [done_stays W s j d hj]
    exact Nat.le_refl _
theorem tight_none {n : List Lo} {most : Int} (i : Nat) (h : most < ((sub n).plain.met (first n) i).length) : tight n most = none := by
  unfold tight
  rw [dif_neg]
  rintro ⟨j, hj1, hj2⟩
  have := met_le (sub n).plain (first n) i j hj1
  omega
/-- The tight automaton's rows, and what it takes. -/
theorem few_rows {n : List Lo} (hn : May n) {most : Int} {i : Nat} (h : Few n most i) : 0 < ((sub n).plain.out (first n) i).length ∧ ∀ k (h : k < ((sub n).plain.out (first n) i).length), Row ((sub n).plain.out (first n) i).length 256 ((sub n).plain.out (first n) i)[k].arcs :=
  out_rows _ (plain_fair _ (sub_top hn)).refl _ _ h.1
theorem few_eqv {n : List Lo} (hn : May n) {most : Int} {i : Nat} (h : Few n most i) : Eqv (ofL ((sub n).plain.out (first n) i)) (sub n) 0 (first n) := (plain_fair _ (sub_top hn)).eqv _ _ h.1
theorem few_len {n : List Lo} {most : Int} {i : Nat} (h : Few n most i) : (((sub n).plain.out (first n) i).length : Int) ≤ most := by
  have := out_length (sub n).plain (first n) i
  have := h.2
  omega
theorem tight_takes {n : List Lo} (hn : May n) {most : Int} {d : List St} (h : tight n most = some d) (w : List Nat) : (ofL d).acc (some 0) w = takes n (first n) w := by
  have hx : ∃ i, Few n most i := by
    unfold tight at h
    split at h
    · assumption
    · cases h
  obtain ⟨i, hi⟩ := hx
  rw [tight_some hi] at h
  cases h
  obtain ⟨h1, h2⟩ := few_rows hn hi
  rw [least_eqv h1 h2 w, few_eqv hn hi w, sub_takes]
theorem tight_fits {n : List Lo} (hn : May n) {most : Int} (hm : most ≤ 20000) {d : List St} (h : tight n most = some d) : Fits d := by
  have hx : ∃ i, Few n most i := by
    unfold tight at h
    split at h
    · assumption
    · cases h
  obtain ⟨i, hi⟩ := hx
  rw [tight_some hi] at h
  cases h
  obtain ⟨h1, h2⟩ := few_rows hn hi
  have h3 := few_len hi
  exact least_fits ⟨h1, by omega, h2⟩
end Au
end Go.Proofs.YthhfmcikfdagiaaDoor

/-
  Loose states in which rows lead from one to another, plainly: what is built, and which words lead where; no program is named here.
-/
namespace Go.Proofs.YthhfmcikfdagiaaDoor.Sp
open Go.Lib
open Au (Arc Lo)

/-- One arc more of a state. -/
def addArc (n : List Lo) (p : Nat) (a : Arc) : List Lo := n.modify p fun s => ⟨s.fin, s.arcs ++ [a], s.free⟩
/-- The texts of a row lead from one state to another. -/
def leadBy (to_ : Nat) : List Lo → Nat → List (Int × Int) → List Lo
  | n, _, [] => n
  | n, p, [r] => addArc n p ⟨r.1, r.2, to_⟩
  | n, p, r :: r' :: rs => leadBy to_ (addArc (n ++ [⟨false, [], []⟩]) p ⟨r.1, r.2, n.length⟩) n.length (r' :: rs)
def lead (n : List Lo) (p q : Nat) (R : List (List (Int × Int))) : List Lo := R.foldl (fun n row => leadBy q n p row) n
/-- The states behind the first byte of a row. -/
def chainL (to_ : Nat) : Nat → List (Int × Int) → List Lo
  | _, [] => []
  | k, r :: rs => ⟨false, [⟨r.1, r.2, if rs = [] then (to_ : Int) else ((k + 1 : Nat) : Int)⟩], []⟩ :: chainL to_ (k + 1) rs
theorem chainL_length (to_ : Nat) : ∀ k rs, (chainL to_ k rs).length = rs.length
  | _, [] => rfl
  | k, _ :: rs => by simp [chainL, chainL_length to_ (k + 1) rs]
theorem chainL_at (to_ : Nat) : ∀ k (rs : List (Int × Int)) j (h : j < rs.length), (chainL to_ k rs)[j]? = some ⟨false, [⟨rs[j].1, rs[j].2, if j + 1 = rs.length then (to_ : Int) else ((k + j + 1 : Nat) : Int)⟩], []⟩
  | k, r :: rs, 0, _ => by
    have e : (rs = []) ↔ (0 + 1 = (r :: rs).length) := by cases rs <;> simp
    simp only [chainL, List.getElem?_cons_zero, List.getElem_cons_zero]
    by_cases h : rs = []
    · rw [if_pos h, if_pos (e.1 h)]
    · rw [if_neg h, if_neg (fun q => h (e.2 q))]
  | k, r :: rs, j + 1, h => by
    have h' : j < rs.length := by simpa using h
    have := chainL_at to_ (k + 1) rs j h'
    simp only [chainL, List.getElem?_cons_succ, List.getElem_cons_succ, List.length_cons]
    rw [this]
    simp only [Nat.add_right_cancel_iff]
    by_cases q : j + 1 = rs.length
    · rw [if_pos q, if_pos q]
    · rw [if_neg q, if_neg q, show k + 1 + j + 1 = k + (j + 1) + 1 by omega]
theorem addArc_length (n : List Lo) (p : Nat) (a : Arc) : (addArc n p a).length = n.length := by simp [addArc]
theorem addArc_at (n : List Lo) (p : Nat) (a : Arc) (i : Nat) : (addArc n p a)[i]? = (n[i]?).map fun s => if p = i then ⟨s.fin, s.arcs ++ [a], s.free⟩ else s := by
  unfold addArc
  rw [List.getElem?_modify]
  by_cases h : p = i
  · simp [h]
  · simp [h]
theorem addArc_append (n r : List Lo) (p : Nat) (a : Arc) (h : p < n.length) : addArc (n ++ r) p a = addArc n p a ++ r := by
  apply List.ext_getElem?
  intro i
  rw [addArc_at]
  by_cases hi : i < n.length
  · rw [List.getElem?_append_left hi, List.getElem?_append_left (by rw [addArc_length]; exact hi), addArc_at]
  · rw [List.getElem?_append_right (by omega), List.getElem?_append_right (by rw [addArc_length]; omega), addArc_length]
    have : p ≠ i := by omega
    simp [this]
theorem addArc_last (n : List Lo) (s : Lo) (p : Nat) (a : Arc) (h : p = n.length) : addArc (n ++ [s]) p a = n ++ [⟨s.fin, s.arcs ++ [a], s.free⟩] := by
  subst h
  apply List.ext_getElem?
  intro i
  rw [addArc_at]
  by_cases hi : i < n.length
  · have : n.length ≠ i := by omega
    rw [List.getElem?_append_left hi, List.getElem?_append_left hi]
    simp [this]
  · rw [List.getElem?_append_right (by omega), List.getElem?_append_right (by omega)]
    by_cases e : i = n.length
    · subst e; simp
    · rw [List.getElem?_eq_none (by simp; omega), List.getElem?_eq_none (by simp; omega)]
      rfl
theorem leadBy_form (to_ : Nat) : ∀ (rs : List (Int × Int)) (r : Int × Int) (n : List Lo) (p : Nat), p < n.length →
    leadBy to_ n p (r :: rs) = addArc n p ⟨r.1, r.2, if rs = [] then (to_ : Int) else (n.length : Int)⟩ ++ chainL to_ n.length rs
  | [], r, n, p, _ => by simp [leadBy, chainL]
  | r' :: rs, r, n, p, h => by
    show leadBy to_ (addArc (n ++ [⟨false, [], []⟩]) p ⟨r.1, r.2, n.length⟩) n.length (r' :: rs) = _
    have hl : (addArc (n ++ [(⟨false, [], []⟩ : Lo)]) p ⟨r.1, r.2, n.length⟩).length = n.length + 1 := by rw [addArc_length]; simp
    rw [leadBy_form to_ rs r' _ n.length (by omega), hl, addArc_append n _ p _ h, addArc_last _ _ _ _ (by rw [addArc_length])]
    rw [if_neg (show ¬ (r' :: rs = []) by simp)]
    simp only [chainL, List.nil_append, List.append_assoc, List.singleton_append]
theorem leadBy_length (to_ : Nat) (n : List Lo) (p : Nat) (row : List (Int × Int)) (h : p < n.length) : (leadBy to_ n p row).length = n.length + (row.length - 1) := by
  cases row with
  | nil => simp [leadBy]
  | cons r rs => rw [leadBy_form to_ rs r n p h, List.length_append, addArc_length, chainL_length]; simp
theorem lead_snoc (n : List Lo) (p q : Nat) (R : List (List (Int × Int))) (row : List (Int × Int)) : lead n p q (R ++ [row]) = leadBy q (lead n p q R) p row := by
  unfold lead
  rw [List.foldl_append]
  rfl

/-- A row that leads from a state to another. -/
structure Edge where
  src : Nat
  row : List (Int × Int)
  dst : Nat
def nxt (st : Nat → Nat → Nat) (e : Nat) (ed : Edge) (j : Nat) : Nat := if j = ed.row.length then ed.dst else st e j
/-- Loose states: the first m ones with what they had, rows by way of states of their own. -/
structure Led (m : Nat) (base : Nat → Lo) (E : List Edge) (st : Nat → Nat → Nat) (n : List Lo) : Prop where
  size : m ≤ n.length
  main : ∀ p, p < m → ∃ A : List Arc, n[p]? = some ⟨(base p).fin, (base p).arcs ++ A, (base p).free⟩ ∧
    ∀ a, a ∈ A ↔ ∃ e ed r, E[e]? = some ed ∧ ed.src = p ∧ ed.row[0]? = some r ∧ a = ⟨r.1, r.2, (nxt st e ed 1 : Nat)⟩
  chain : ∀ e ed j r, E[e]? = some ed → 1 ≤ j → ed.row[j]? = some r → n[st e j]? = some ⟨false, [⟨r.1, r.2, (nxt st e ed (j + 1) : Nat)⟩], []⟩ ∧ m ≤ st e j
  inj : ∀ e ed j e' ed' j', E[e]? = some ed → 1 ≤ j → j < ed.row.length → E[e']? = some ed' → 1 ≤ j' → j' < ed'.row.length → st e j = st e' j' → e = e' ∧ j = j'
  all : ∀ k, m ≤ k → k < n.length → ∃ e ed j, E[e]? = some ed ∧ 1 ≤ j ∧ j < ed.row.length ∧ k = st e j
  src : ∀ ed ∈ E, ed.src < m ∧ ed.dst < m ∧ 0 < ed.row.length
theorem Led.nil (n : List Lo) (base : Nat → Lo) (hb : ∀ p, p < n.length → n[p]? = some (base p)) (st : Nat → Nat → Nat) : Led n.length base [] st n := by
  refine ⟨Nat.le_refl _, fun p hp => ⟨[], by rw [hb p hp]; simp, fun a => ⟨fun h => (by simp at h), fun ⟨e, ed, r, h, _⟩ => (by simp at h)⟩⟩, fun e ed j r h => by simp at h, fun e ed j e' ed' j' h => by simp at h, fun k h1 h2 => by omega, fun ed h => by simp at h⟩
/-- One row more. -/
theorem Led.snoc {m : Nat} {base : Nat → Lo} {E : List Edge} {st : Nat → Nat → Nat} {n : List Lo} (h : Led m base E st n) (p q : Nat) (row : List (Int × Int)) (hp : p < m) (hq : q < m) (hr : 0 < row.length) :
    Led m base (E ++ [⟨p, row, q⟩]) (fun e j => if e = E.length then n.length + j - 1 else st e j) (leadBy q n p row) := by
  obtain ⟨r, rs, rfl⟩ : ∃ r rs, row = r :: rs := by cases row with | nil => simp at hr | cons r rs => exact ⟨r, rs, rfl⟩
  have hsz := h.size
  have hform := leadBy_form q rs r n p (by omega)
  have hE : ∀ e ed, (E ++ [(⟨p, r :: rs, q⟩ : Edge)])[e]? = some ed ↔ (e < E.length ∧ E[e]? = some ed) ∨ (e = E.length ∧ ed = ⟨p, r :: rs, q⟩) := fun e ed => by
    by_cases he : e < E.length
    · rw [List.getElem?_append_left he]
      constructor
      · exact fun h => .inl ⟨he, h⟩
      · rintro (⟨_, h⟩ | ⟨h, _⟩)
        · exact h
        · omega
    · rw [List.getElem?_append_right (by omega)]
      constructor
      · intro h2
        obtain ⟨h3, h4⟩ := List.getElem?_eq_some_iff.1 h2
        have h5 : e - E.length = 0 := by simp at h3; omega
        simp only [h5, List.getElem_cons_zero] at h4
        exact .inr ⟨by omega, h4.symm⟩
      · rintro (⟨h, _⟩ | ⟨h, rfl⟩)
        · omega
        · simp [h]
  have hlt : ∀ {e ed}, E[e]? = some ed → e < E.length := fun he => (List.getElem?_eq_some_iff.1 he).1
  have hnx : ∀ {e ed} j, E[e]? = some ed → nxt (fun e j => if e = E.length then n.length + j - 1 else st e j) e ed j = nxt st e ed j := fun j he => by
    have := hlt he
    unfold nxt
    dsimp only
    rw [if_neg (show ¬ _ = E.length by omega)]
  have hnn : ∀ j, nxt (fun e j => if e = E.length then n.length + j - 1 else st e j) E.length ⟨p, r :: rs, q⟩ j = if j = rs.length + 1 then q else n.length + j - 1 := fun j => by
    unfold nxt
    dsimp only
    rw [if_pos rfl]
    rfl
  have hold : ∀ i, i < n.length → i ≠ p → (leadBy q n p (r :: rs))[i]? = n[i]? := fun i hi hip => by
    rw [hform, List.getElem?_append_left (by rw [addArc_length]; exact hi), addArc_at]
    have : ¬ p = i := fun e => hip e.symm
    simp [this]
  have hnew : ∀ j (hj : j < rs.length), (leadBy q n p (r :: rs))[n.length + j]? = some ⟨false, [⟨rs[j].1, rs[j].2, if j + 1 = rs.length then (q : Int) else ((n.length + j + 1 : Nat) : Int)⟩], []⟩ := fun j hj => by
    rw [hform, List.getElem?_append_right (by rw [addArc_length]; omega), addArc_length, Nat.add_sub_cancel_left]
    exact chainL_at q n.length rs j hj
  refine ⟨by rw [leadBy_length _ _ _ _ (by omega)]; omega, fun p' hp' => ?_, fun e ed j r' he hj hr' => ?_, fun e ed j e' ed' j' he hj hj2 he' hj' hj2' hst => ?_, fun k hk1 hk2 => ?_, fun ed hed => ?_⟩
  · obtain ⟨A, h1, h2⟩ := h.main p' hp'
    by_cases e : p' = p
    · subst e
      refine ⟨A ++ [⟨r.1, r.2, if rs = [] then (q : Int) else (n.length : Int)⟩], ?_, fun a => ?_⟩
      · rw [hform, List.getElem?_append_left (by rw [addArc_length]; omega), addArc_at, h1]
        simp
      · rw [List.mem_append, h2, List.mem_singleton]
        constructor
        · rintro (⟨e, ed, r2, he, h3, h4, rfl⟩ | rfl)
          · exact ⟨e, ed, r2, (hE _ _).2 (.inl ⟨hlt he, he⟩), h3, h4, by rw [hnx 1 he]⟩
          · refine ⟨E.length, ⟨p', r :: rs, q⟩, r, (hE _ _).2 (.inr ⟨rfl, rfl⟩), rfl, rfl, ?_⟩
            rw [hnn]
            cases rs <;> simp
        · rintro ⟨e, ed, r2, he, h3, h4, rfl⟩
          rcases (hE _ _).1 he with ⟨_, he⟩ | ⟨rfl, rfl⟩
          · exact .inl ⟨e, ed, r2, he, h3, h4, by rw [hnx 1 he]⟩
          · right
            simp at h4
            subst h4
            rw [hnn]
            cases rs <;> simp
    · refine ⟨A, by rw [hold p' (by omega) e, h1], fun a => ?_⟩
      rw [h2]
      constructor
      · rintro ⟨e, ed, r2, he, h3, h4, rfl⟩
        exact ⟨e, ed, r2, (hE _ _).2 (.inl ⟨hlt he, he⟩), h3, h4, by rw [hnx 1 he]⟩
      · rintro ⟨e2, ed, r2, he, h3, h4, rfl⟩
        rcases (hE _ _).1 he with ⟨_, he⟩ | ⟨rfl, rfl⟩
        · exact ⟨e2, ed, r2, he, h3, h4, by rw [hnx 1 he]⟩
        · exact absurd h3.symm e
  · rcases (hE _ _).1 he with ⟨hl, he⟩ | ⟨rfl, rfl⟩
    · obtain ⟨h1, h2⟩ := h.chain e ed j r' he hj hr'
      rw [if_neg (show ¬ e = E.length by omega), hnx _ he]
      have hs : st e j < n.length := (List.getElem?_eq_some_iff.1 h1).1
      exact ⟨by rw [hold _ hs (by omega)]; exact h1, h2⟩
    · rw [if_pos rfl, hnn]
      obtain ⟨j, rfl⟩ : ∃ i, j = i + 1 := ⟨j - 1, by omega⟩
      have hj3 : j < rs.length := by
        have := (List.getElem?_eq_some_iff.1 hr').1
        simpa using this
      have e1 : r' = rs[j] := by
        have := (List.getElem?_eq_some_iff.1 hr').2
        simpa using this.symm
      subst e1
      rw [show n.length + (j + 1) - 1 = n.length + j by omega, hnew j hj3]
      refine ⟨?_, by omega⟩
      by_cases q1 : j + 1 = rs.length
      · rw [if_pos q1, if_pos (by omega)]
      · rw [if_neg q1, if_neg (by omega), show n.length + (j + 1 + 1) - 1 = n.length + j + 1 by omega]
  · have hs : ∀ {e ed j}, E[e]? = some ed → 1 ≤ j → j < ed.row.length → st e j < n.length := fun {e ed j} he h1 h2 =>
      (List.getElem?_eq_some_iff.1 (h.chain e ed j _ he h1 (List.getElem?_eq_getElem h2)).1).1
    rcases (hE _ _).1 he with ⟨hl, he⟩ | ⟨rfl, rfl⟩ <;> rcases (hE _ _).1 he' with ⟨hl', he'⟩ | ⟨rfl, rfl⟩
    · rw [if_neg (show ¬ e = E.length by omega), if_neg (show ¬ e' = E.length by omega)] at hst
      exact h.inj e ed j e' ed' j' he hj hj2 he' hj' hj2' hst
    · rw [if_neg (show ¬ e = E.length by omega), if_pos rfl] at hst
      have := hs he hj hj2
      omega
    · rw [if_pos rfl, if_neg (show ¬ e' = E.length by omega)] at hst
      have := hs he' hj' hj2'
      omega
    · rw [if_pos rfl, if_pos rfl] at hst
      exact ⟨rfl, by omega⟩
  · rw [leadBy_length _ _ _ _ (by omega)] at hk2
    by_cases q1 : k < n.length
    · obtain ⟨e, ed, j, he, h1, h2, h3⟩ := h.all k hk1 q1
      exact ⟨e, ed, j, (hE _ _).2 (.inl ⟨hlt he, he⟩), h1, h2, by rw [if_neg (show ¬ e = E.length by have := hlt he; omega)]; exact h3⟩
    · refine ⟨E.length, ⟨p, r :: rs, q⟩, k - n.length + 1, (hE _ _).2 (.inr ⟨rfl, rfl⟩), by omega, by simp at hk2 ⊢; omega, by rw [if_pos rfl]; omega⟩
  · rcases List.mem_append.1 hed with h1 | h1
    · exact h.src ed h1
    · rw [List.mem_singleton.1 h1]
      exact ⟨hp, hq, hr⟩
end Go.Proofs.YthhfmcikfdagiaaDoor.Sp

/-
  Which words lead where in loose states with rows; no program is named here.
-/
namespace Go.Proofs.YthhfmcikfdagiaaDoor.Sp
open Go.Lib
open Au (Arc Lo Star May has)

/-- A word leads from the start to a state. -/
inductive Path (n : List Lo) : List Nat → Nat → Prop
  | nil {k : Nat} : Star n 0 k → Path n [] k
  | snoc {w : List Nat} {k l c : Nat} {s : Lo} {a : Arc} : Path n w k → n[k]? = some s → a ∈ s.arcs → a.lo ≤ (c : Int) → (c : Int) ≤ a.hi → Star n a.to.toNat l → Path n (w ++ [c]) l
theorem star_lt {n : List Lo} (hM : May n) {i j : Nat} (h : Star n i j) (hi : i < n.length) : j < n.length := by
  induction h with
  | refl => exact hi
  | step _ h1 h2 _ =>
    obtain ⟨hl, rfl⟩ := List.getElem?_eq_some_iff.1 h1
    have := hM.free _ hl _ h2
    omega
theorem path_snoc {n : List Lo} {w : List Nat} {c l : Nat} : Path n (w ++ [c]) l ↔ ∃ k s a, Path n w k ∧ n[k]? = some s ∧ a ∈ s.arcs ∧ a.lo ≤ (c : Int) ∧ (c : Int) ≤ a.hi ∧ Star n a.to.toNat l := by
  constructor
  · intro h
    generalize hw : w ++ [c] = v at h
    cases h with
    | nil _ => simp at hw
    | snoc h1 h2 h3 h4 h5 h6 =>
      obtain ⟨rfl, e⟩ := List.append_inj' hw rfl
      obtain rfl := List.singleton_inj.1 e
      exact ⟨_, _, _, h1, h2, h3, h4, h5, h6⟩
  · rintro ⟨k, s, a, h1, h2, h3, h4, h5, h6⟩
    exact .snoc h1 h2 h3 h4 h5 h6
theorem path_nil {n : List Lo} {l : Nat} : Path n [] l ↔ Star n 0 l := by
  constructor
  · intro h
    generalize hw : ([] : List Nat) = v at h
    cases h with
    | nil h => exact h
    | snoc => simp at hw
  · exact .nil
/-- The states of a set are those that the word leads to. -/
theorem has_path {n : List Lo} (hM : May n) : ∀ (m : Nat) (w : List Nat), w.length = m → ∀ k, has (w.foldl (Au.over n) (Au.first n)) k ↔ Path n w k
  | 0, w, hw, k => by
    obtain rfl := List.length_eq_zero_iff.1 hw
    rw [path_nil, List.foldl_nil]
    unfold Au.first Au.spread
    rw [Au.has_setOf]
    constructor
    · rintro ⟨_, j, hj, hs⟩
      obtain ⟨_, rfl⟩ := (Au.has_setOf _ _ _).1 hj
      exact hs
    · intro hs
      exact ⟨star_lt hM hs hM.pos, 0, (Au.has_setOf _ _ _).2 ⟨hM.pos, rfl⟩, hs⟩
  | m + 1, w, hw, k => by
    obtain ⟨v, c, rfl⟩ : ∃ v c, w = v ++ [c] := ⟨w.dropLast, w.getLast (by intro e; rw [e] at hw; simp at hw), (List.dropLast_concat_getLast _).symm⟩
    have ih := has_path hM m v (by simpa using hw)
    rw [path_snoc, List.foldl_append]
    show has (Au.over n (v.foldl (Au.over n) (Au.first n)) c) k ↔ _
    unfold Au.over Au.spread
    rw [Au.has_setOf]
    constructor
    · rintro ⟨_, j, hj, hs⟩
      obtain ⟨_, k', s, a, h1, h2, h3, h4, h5, rfl⟩ := (Au.has_setOf _ _ _).1 hj
      exact ⟨k', s, a, (ih k').1 h1, h2, h3, h4, h5, hs⟩
    · rintro ⟨k', s, a, h1, h2, h3, h4, h5, h6⟩
      obtain ⟨hl, rfl⟩ := List.getElem?_eq_some_iff.1 h2
      have hto := hM.arc _ hl a h3
      have hlt : a.to.toNat < n.length := by omega
      exact ⟨star_lt hM h6 hlt, a.to.toNat, (Au.has_setOf _ _ _).2 ⟨hlt, k', n[k'], a, (ih k').2 h1, h2, h3, h4, h5, rfl⟩, h6⟩
/-- A row holds these bytes; begins with them. -/
def PreN (row : List (Int × Int)) (x : List Nat) : Prop := x.length ≤ row.length ∧ ∀ (i : Nat) (r : Int × Int) (c : Nat), row[i]? = some r → x[i]? = some c → r.1 ≤ (c : Int) ∧ (c : Int) ≤ r.2
def FitsN (row : List (Int × Int)) (x : List Nat) : Prop := x.length = row.length ∧ PreN row x
theorem preN_snoc {row : List (Int × Int)} {x : List Nat} {c : Nat} : PreN row (x ++ [c]) ↔ PreN row x ∧ ∃ r, row[x.length]? = some r ∧ r.1 ≤ (c : Int) ∧ (c : Int) ≤ r.2 := by
  unfold PreN
  constructor
  · rintro ⟨h1, h2⟩
    simp only [List.length_append, List.length_singleton] at h1
    refine ⟨⟨by omega, fun i r c' hr hc => h2 i r c' hr (by rw [List.getElem?_append_left (List.getElem?_eq_some_iff.1 hc).1]; exact hc)⟩, row[x.length]'(by omega), List.getElem?_eq_getElem _, h2 x.length _ c (List.getElem?_eq_getElem _) (by simp)⟩
  · rintro ⟨⟨h1, h2⟩, r, hr, h3, h4⟩
    have hl := (List.getElem?_eq_some_iff.1 hr).1
    refine ⟨by simp; omega, fun i r' c' hr' hc' => ?_⟩
    by_cases hi : i < x.length
    · rw [List.getElem?_append_left hi] at hc'
      exact h2 i r' c' hr' hc'
    · have hi2 : i < (x ++ [c]).length := (List.getElem?_eq_some_iff.1 hc').1
      obtain rfl : i = x.length := by simp at hi2; omega
      rw [hr] at hr'
      cases hr'
      simp at hc'
      subst hc'
      exact ⟨h3, h4⟩
def bs (n0 : List Lo) (p : Nat) : Lo := n0.getD p ⟨false, [], []⟩
theorem bs_at {n0 : List Lo} {p : Nat} (h : p < n0.length) : n0[p]? = some (bs n0 p) := by simp [bs, List.getD, h]
/-- A word leads to one of the first states, rows taken whole. -/
inductive MP (n0 : List Lo) (E : List Edge) : List Nat → Nat → Prop
  | nil {k : Nat} : Star n0 0 k → MP n0 E [] k
  | arc {w : List Nat} {k l c : Nat} {s : Lo} {a : Arc} : MP n0 E w k → n0[k]? = some s → a ∈ s.arcs → a.lo ≤ (c : Int) → (c : Int) ≤ a.hi → Star n0 a.to.toNat l → MP n0 E (w ++ [c]) l
  | edge {w x : List Nat} {l : Nat} {ed : Edge} : MP n0 E w ed.src → ed ∈ E → FitsN ed.row x → Star n0 ed.dst l → MP n0 E (w ++ x) l
section
variable {n0 n : List Lo} {E : List Edge} {st : Nat → Nat → Nat}
theorem MP.lt (hM : May n0) (hs : ∀ ed ∈ E, ed.dst < n0.length) {w : List Nat} {k : Nat} (h : MP n0 E w k) : k < n0.length := by
  cases h with
  | nil h => exact star_lt hM h hM.pos
  | arc _ h2 h3 _ _ h6 =>
    obtain ⟨hl, rfl⟩ := List.getElem?_eq_some_iff.1 h2
    have := hM.arc _ hl _ h3
    exact star_lt hM h6 (by omega)
  | edge _ h2 _ h4 => exact star_lt hM h4 (hs _ h2)
/-- What leads on by nothing is as it was. -/
theorem Led.star (h : Led n0.length (bs n0) E st n) (hM : May n0) {i k : Nat} (hi : i < n0.length) : Star n i k ↔ Star n0 i k := by
  constructor
  · intro hs
    have key : k < n0.length ∧ Star n0 i k := by
      induction hs with
      | refl => exact ⟨hi, .refl⟩
      | step _ h1 h2 ih =>
        obtain ⟨i1, i2⟩ := ih
        obtain ⟨A, h3, _⟩ := h.main _ i1
        rw [h1] at h3
        cases h3
        have hb := bs_at i1
        refine ⟨?_, .step i2 hb h2⟩
        obtain ⟨hl, e⟩ := List.getElem?_eq_some_iff.1 hb
        have := hM.free _ hl _ (by rw [e]; exact h2)
        omega
    exact key.2
  · intro hs
    have key : k < n0.length ∧ Star n i k := by
      induction hs with
      | refl => exact ⟨hi, .refl⟩
      | step _ h1 h2 ih =>
        obtain ⟨i1, i2⟩ := ih
        obtain ⟨A, h3, _⟩ := h.main _ i1
        rw [bs_at i1] at h1
        cases h1
        refine ⟨?_, .step i2 h3 h2⟩
        obtain ⟨hl, e⟩ := List.getElem?_eq_some_iff.1 (bs_at i1)
        have := hM.free _ hl _ (by rw [e]; exact h2)
        omega
    exact key.2
theorem Led.star_chain (h : Led n0.length (bs n0) E st n) {e j : Nat} {ed : Edge} (he : E[e]? = some ed) (h1 : 1 ≤ j) (h2 : j < ed.row.length) {k : Nat} (hs : Star n (st e j) k) : k = st e j := by
  induction hs with
  | refl => rfl
  | step _ h3 h4 ih =>
    subst ih
    rw [(h.chain e ed j _ he h1 (List.getElem?_eq_getElem h2)).1] at h3
    cases h3
    cases h4
/-- Where a word leads: to one of the first states, or into a row. -/
def InRow (n0 : List Lo) (E : List Edge) (st : Nat → Nat → Nat) (w : List Nat) (k : Nat) : Prop :=
  ∃ e ed u x, E[e]? = some ed ∧ 1 ≤ x.length ∧ x.length < ed.row.length ∧ k = st e x.length ∧ w = u ++ x ∧ PreN ed.row x ∧ MP n0 E u ed.src
theorem Led.path_of (h : Led n0.length (bs n0) E st n) (hM : May n0) {w : List Nat} {k : Nat} (hp : Path n w k) : (k < n0.length ∧ MP n0 E w k) ∨ InRow n0 E st w k := by
  -- behind the byte c, at the place t to which it leads
  have go : ∀ (e : Nat) (ed : Edge) (u x : List Nat) (l : Nat), E[e]? = some ed → MP n0 E u ed.src → PreN ed.row x → 1 ≤ x.length → Star n (nxt st e ed x.length) l → (l < n0.length ∧ MP n0 E (u ++ x) l) ∨ InRow n0 E st (u ++ x) l := by
    intro e ed u x l he hu hx h1 hs
    unfold nxt at hs
    by_cases q : x.length = ed.row.length
    · rw [if_pos q] at hs
      have hd := (h.src ed (List.mem_of_getElem? he)).2.1
      have hs0 := (h.star hM hd).1 hs
      exact .inl ⟨star_lt hM hs0 hd, .edge hu (List.mem_of_getElem? he) ⟨q, hx⟩ hs0⟩
    · rw [if_neg q] at hs
      have hlt : x.length < ed.row.length := by have := hx.1; omega
      exact .inr ⟨e, ed, u, x, he, h1, hlt, h.star_chain he h1 hlt hs, rfl, hx, hu⟩
  induction hp with
  | nil h0 =>
    have := (h.star hM hM.pos).1 h0
    exact .inl ⟨star_lt hM this hM.pos, .nil this⟩
  | @snoc w k l c s a hp h1 h2 h3 h4 h5 ih =>
    rcases ih with ⟨i1, i2⟩ | ⟨e, ed, u, x, he, hx1, hx2, rfl, rfl, hx3, hu⟩
    · obtain ⟨A, h6, h7⟩ := h.main _ i1
      rw [h1] at h6
      cases h6
      rcases List.mem_append.1 h2 with h2 | h2
      · have hb := bs_at i1
        obtain ⟨hl, e⟩ := List.getElem?_eq_some_iff.1 hb
        have hto := hM.arc _ hl _ (by rw [e]; exact h2)
        have hlt : a.to.toNat < n0.length := by omega
        have hs0 := (h.star hM hlt).1 h5
        exact .inl ⟨star_lt hM hs0 hlt, .arc i2 hb h2 h3 h4 hs0⟩
      · obtain ⟨e, ed, r, he, rfl, hr, rfl⟩ := (h7 _).1 h2
        refine go e ed _ [_] _ he i2 ?_ (by simp) (by simpa using h5)
        exact ⟨by have := (List.getElem?_eq_some_iff.1 hr).1; simp; omega, fun i r' c' hr' hc' => by
          have hi := (List.getElem?_eq_some_iff.1 hc').1
          obtain rfl : i = 0 := by simpa using hi
          rw [hr] at hr'
          cases hr'
          simp at hc'
          subst hc'
          exact ⟨h3, h4⟩⟩
    · have hc := (h.chain e ed x.length _ he hx1 (List.getElem?_eq_getElem hx2)).1
      rw [h1] at hc
      cases hc
      obtain rfl := List.mem_singleton.1 h2
      rw [List.append_assoc]
      refine go e ed u (x ++ [_]) _ he hu (preN_snoc.2 ⟨hx3, _, List.getElem?_eq_getElem hx2, h3, h4⟩) (by simp) (by simpa using h5)
theorem Led.chain_path (h : Led n0.length (bs n0) E st n) {e : Nat} {ed : Edge} (he : E[e]? = some ed) {u : List Nat} (hu : Path n u ed.src) : ∀ (m : Nat) (x : List Nat), x.length = m + 1 → PreN ed.row x → ∀ l, Star n (nxt st e ed x.length) l → Path n (u ++ x) l
  | 0, x, hx, hp, l, hs => by
    obtain ⟨c, rfl⟩ := List.length_eq_one_iff.1 hx
    obtain ⟨_, r, hr, h1, h2⟩ := preN_snoc (x := []).1 hp
    obtain ⟨A, h3, h4⟩ := h.main _ (h.src ed (List.mem_of_getElem? he)).1
    exact .snoc hu h3 (List.mem_append_right _ ((h4 _).2 ⟨e, ed, r, he, rfl, hr, rfl⟩)) h1 h2 (by simpa using hs)
  | m + 1, x, hx, hp, l, hs => by
    obtain ⟨v, c, rfl⟩ : ∃ v c, x = v ++ [c] := ⟨x.dropLast, x.getLast (by intro e; rw [e] at hx; simp at hx), (List.dropLast_concat_getLast _).symm⟩
    obtain ⟨hv, r, hr, h1, h2⟩ := preN_snoc.1 hp
    have hl : v.length = m + 1 := by simpa using hx
    have hlt := (List.getElem?_eq_some_iff.1 hr).1
    have hp1 := h.chain_path he hu m v hl hv (st e v.length) (by unfold nxt; rw [if_neg (by omega)]; exact .refl)
    rw [← List.append_assoc]
    exact .snoc hp1 (h.chain e ed v.length r he (by omega) hr).1 (List.mem_singleton.2 rfl) h1 h2 (by simpa using hs)
theorem Led.of_mp (h : Led n0.length (bs n0) E st n) (hM : May n0) {w : List Nat} {k : Nat} (hp : MP n0 E w k) : Path n w k := by
  induction hp with
  | nil h0 => exact .nil ((h.star hM hM.pos).2 h0)
  | arc _ h2 h3 h4 h5 h6 ih =>
    obtain ⟨hl, e⟩ := List.getElem?_eq_some_iff.1 h2
    obtain ⟨A, h7, _⟩ := h.main _ hl
    have hto := hM.arc _ hl _ (by rw [e]; exact h3)
    have hb := bs_at hl
    rw [h2] at hb
    cases hb
    exact .snoc ih h7 (List.mem_append_left _ h3) h4 h5 ((h.star hM (by omega)).2 h6)
  | edge _ h2 h3 h4 ih =>
    obtain ⟨e, he⟩ := List.mem_iff_getElem?.1 h2
    have hsrc := h.src _ h2
    obtain ⟨m, hm⟩ : ∃ m, _ = m + 1 := ⟨_, (Nat.succ_pred_eq_of_pos (show 0 < List.length _ by rw [h3.1]; exact hsrc.2.2)).symm⟩
    refine h.chain_path he ih m _ hm h3.2 _ ?_
    unfold nxt
    rw [if_pos h3.1]
    exact (h.star hM hsrc.2.1).2 h4
/-- Where each word leads. -/
theorem Led.path_iff (h : Led n0.length (bs n0) E st n) (hM : May n0) {w : List Nat} {k : Nat} : Path n w k ↔ MP n0 E w k ∨ InRow n0 E st w k := by
  constructor
  · intro hp
    rcases h.path_of hM hp with ⟨_, h1⟩ | h1
    · exact .inl h1
    · exact .inr h1
  · rintro (h1 | ⟨e, ed, u, x, he, hx1, hx2, rfl, rfl, hx3, hu⟩)
    · exact h.of_mp hM h1
    · obtain ⟨m, hm⟩ : ∃ m, x.length = m + 1 := ⟨x.length - 1, by omega⟩
      refine h.chain_path he (h.of_mp hM hu) m x hm hx3 _ ?_
      unfold nxt
      rw [if_neg (by omega)]
      exact .refl
/-- The states with the rows may be, too. -/
theorem Led.may (h : Led n0.length (bs n0) E st n) (hM : May n0) (hr : ∀ ed ∈ E, ∀ r ∈ ed.row, 0 ≤ r.1 ∧ r.1 ≤ r.2 ∧ r.2 ≤ 255) : May n := by
  have hsz := h.size
  have hst : ∀ {e ed j}, E[e]? = some ed → 1 ≤ j → j ≤ ed.row.length → nxt st e ed j < n.length := fun {e ed j} he h1 h2 => by
    unfold nxt
    by_cases q : j = ed.row.length
    · rw [if_pos q]; have := (h.src ed (List.mem_of_getElem? he)).2.1; omega
    · rw [if_neg q]
      exact (List.getElem?_eq_some_iff.1 (h.chain e ed j _ he h1 (List.getElem?_eq_getElem (by omega))).1).1
  refine ⟨Nat.lt_of_lt_of_le hM.pos hsz, fun i hi a ha => ?_, fun i hi f hf => ?_⟩
  · by_cases q : i < n0.length
    · obtain ⟨A, h1, h2⟩ := h.main i q
      have e1 : n[i] = ⟨(bs n0 i).fin, (bs n0 i).arcs ++ A, (bs n0 i).free⟩ := (List.getElem?_eq_some_iff.1 h1).2
      rw [e1] at ha
      rcases List.mem_append.1 ha with ha | ha
      · obtain ⟨hl, e⟩ := List.getElem?_eq_some_iff.1 (bs_at q)
        have := hM.arc i q a (by rw [e]; exact ha)
        omega
      · obtain ⟨e, ed, r, he, _, hr0, rfl⟩ := (h2 a).1 ha
        have hm := List.mem_of_getElem? he
        have := hr ed hm r (List.mem_of_getElem? hr0)
        have := hst he (Nat.le_refl 1) (h.src ed hm).2.2
        dsimp only
        omega
    · obtain ⟨e, ed, j, he, h1, h2, rfl⟩ := h.all i (by omega) hi
      have hc := (h.chain e ed j _ he h1 (List.getElem?_eq_getElem h2)).1
      have e1 := (List.getElem?_eq_some_iff.1 hc).2
      rw [e1] at ha
      obtain rfl := List.mem_singleton.1 ha
      have := hr ed (List.mem_of_getElem? he) _ (List.getElem_mem h2)
      have := hst he (show 1 ≤ j + 1 by omega) h2
      dsimp only
      omega
  · by_cases q : i < n0.length
    · obtain ⟨A, h1, h2⟩ := h.main i q
      have e1 : n[i] = ⟨(bs n0 i).fin, (bs n0 i).arcs ++ A, (bs n0 i).free⟩ := (List.getElem?_eq_some_iff.1 h1).2
      rw [e1] at hf
      obtain ⟨hl, e⟩ := List.getElem?_eq_some_iff.1 (bs_at q)
      have := hM.free i q f (by rw [e]; exact hf)
      omega
    · obtain ⟨e, ed, j, he, h1, h2, rfl⟩ := h.all i (by omega) hi
      have hc := (h.chain e ed j _ he h1 (List.getElem?_eq_getElem h2)).1
      have e1 := (List.getElem?_eq_some_iff.1 hc).2
      rw [e1] at hf
      cases hf
end
end Go.Proofs.YthhfmcikfdagiaaDoor.Sp

/-
  What the rows of a range are byte by byte; what loose states take in which the characters of a range lead on; how few sets are met; no program is named here.
-/
namespace Go.Proofs.YthhfmcikfdagiaaDoor.Sp
open Go.Lib
open Au (Arc Lo Star May has)

/-- Of how many bytes a text is that begins with this one; 0: none begins so. -/
def cls (b : Nat) : Nat := if b ≤ 127 then 1 else if b ≤ 191 then 0 else if b ≤ 223 then 2 else if b ≤ 239 then 3 else if b ≤ 247 then 4 else 0
/-- A byte behind the first one. -/
def Cont (b : Nat) : Prop := 128 ≤ b ∧ b ≤ 191
/-- How the ranges of a row lie. -/
structure Shape (row : List (Int × Int)) : Prop where
  pos : 0 < row.length
  len : row.length ≤ 4
  rng : ∀ r ∈ row, 0 ≤ r.1 ∧ r.1 ≤ r.2 ∧ r.2 ≤ 255
  head : ∀ r, row[0]? = some r → ∀ b : Nat, r.1 ≤ (b : Int) → (b : Int) ≤ r.2 → cls b = row.length
  tail : ∀ i r, row[i + 1]? = some r → 128 ≤ r.1 ∧ r.2 ≤ 191
theorem shape_good {f l : Int} {tails t : Nat} {a b : Int} (hk : InCut f l tails) (h : Good f l tails t a b) : Shape (rowOf (a, b)) ∧ (rowOf (a, b)).length = tails + 1 := by
  have hrow := row_good hk h
  have h1 := h.lo
  have h2 := h.hi
  have h3 := h.le
  have hlen := hrow.len
  refine ⟨⟨by omega, by have := (cut_small hk).1; omega, hrow.rng, ?_, ?_⟩, hlen⟩
  · intro r hr c hc1 hc2
    rw [hlen]
    unfold rowOf at hr
    unfold cls
    cases hk
    · rw [encodeRuneZ_one (by omega) (by omega), encodeRuneZ_one (by omega) (by omega)] at hr
      simp at hr
      subst hr
      dsimp only at hc1 hc2
      rw [if_pos (by omega)]
    · rw [encodeRuneZ_two (by omega) (by omega), encodeRuneZ_two (by omega) (by omega)] at hr
      simp at hr
      subst hr
      dsimp only at hc1 hc2
      rw [if_neg (by omega), if_neg (by omega), if_pos (by omega)]
    · rw [encodeRuneZ_three (by omega), encodeRuneZ_three (by omega)] at hr
      simp at hr
      subst hr
      dsimp only at hc1 hc2
      rw [if_neg (by omega), if_neg (by omega), if_neg (by omega), if_pos (by omega)]
    · rw [encodeRuneZ_three (by omega), encodeRuneZ_three (by omega)] at hr
      simp at hr
      subst hr
      dsimp only at hc1 hc2
      rw [if_neg (by omega), if_neg (by omega), if_neg (by omega), if_pos (by omega)]
    · rw [encodeRuneZ_four (by omega) (by omega), encodeRuneZ_four (by omega) (by omega)] at hr
      simp at hr
      subst hr
      dsimp only at hc1 hc2
      rw [if_neg (by omega), if_neg (by omega), if_neg (by omega), if_neg (by omega), if_pos (by omega)]
  · intro i r hr
    have hi : i + 1 < tails + 1 := by rw [← hlen]; exact (List.getElem?_eq_some_iff.1 hr).1
    unfold rowOf at hr
    cases hk
    · omega
    · rw [encodeRuneZ_two (by omega) (by omega), encodeRuneZ_two (by omega) (by omega)] at hr
      obtain rfl : i = 0 := by omega
      simp at hr
      subst hr
      dsimp only
      omega
    · rw [encodeRuneZ_three (by omega), encodeRuneZ_three (by omega)] at hr
      have hi2 : i = 0 ∨ i = 1 := by omega
      rcases hi2 with rfl | rfl <;> (simp at hr; subst hr; dsimp only; omega)
    · rw [encodeRuneZ_three (by omega), encodeRuneZ_three (by omega)] at hr
      have hi2 : i = 0 ∨ i = 1 := by omega
      rcases hi2 with rfl | rfl <;> (simp at hr; subst hr; dsimp only; omega)
    · rw [encodeRuneZ_four (by omega) (by omega), encodeRuneZ_four (by omega) (by omega)] at hr
      have hi2 : i = 0 ∨ i = 1 ∨ i = 2 := by omega
      rcases hi2 with rfl | rfl | rfl <;> (simp at hr; subst hr; dsimp only; omega)
theorem rows_shape {lo hi : Int} {row : List (Int × Int)} (h : row ∈ rows lo hi) : Shape row := by
  obtain ⟨p, hp, rfl⟩ := List.mem_map.1 h
  obtain ⟨f, l, tails, t, hc, hg, _⟩ := pairs_all lo hi p hp
  exact (shape_good hc hg).1
/-- The bytes of a row's beginning: the first one, and such as stand behind. -/
def Part (x : List Nat) : Prop := ∃ b t, x = b :: t ∧ ¬ Cont b ∧ ∀ c ∈ t, Cont c
theorem preN_part {row : List (Int × Int)} (hs : Shape row) {x : List Nat} (h : PreN row x) (h1 : 1 ≤ x.length) : Part x ∧ ∃ b t, x = b :: t ∧ cls b = row.length := by
  obtain ⟨hl, hp⟩ := h
  cases x with
  | nil => simp at h1
  | cons b t =>
    have h0 : 0 < row.length := hs.pos
    obtain ⟨p1, p2⟩ := hp 0 row[0] b (List.getElem?_eq_getElem h0) rfl
    have hc := hs.head row[0] (List.getElem?_eq_getElem h0) b p1 p2
    refine ⟨⟨b, t, rfl, fun hcb => ?_, fun c hct => ?_⟩, b, t, rfl, hc⟩
    · have : cls b = 0 := by
        unfold cls
        rw [if_neg (by have := hcb.1; omega), if_pos hcb.2]
      omega
    · obtain ⟨i, hi, rfl⟩ := List.mem_iff_getElem.1 hct
      have hi2 : i + 1 < row.length := by simp at hl; omega
      obtain ⟨q1, q2⟩ := hp (i + 1) row[i + 1] t[i] (List.getElem?_eq_getElem hi2) (by simp)
      obtain ⟨q3, q4⟩ := hs.tail i row[i + 1] (List.getElem?_eq_getElem hi2)
      exact ⟨by omega, by omega⟩
/-- A word ends with one such beginning at most. -/
theorem part_one {u u' x x' : List Nat} (h : Part x) (h' : Part x') (e : u ++ x = u' ++ x') : u = u' ∧ x = x' := by
  have key : ∀ (u u' x x' : List Nat), Part x → Part x' → u ++ x = u' ++ x' → ¬ x.length < x'.length := by
    intro u u' x x' ⟨b, t, hx, hb, _⟩ ⟨b', t', hx', _, ht'⟩ e hlt
    have hl : u.length + x.length = u'.length + x'.length := by have := congrArg List.length e; simpa using this
    have hget : (u' ++ x')[u.length]? = some b := by
      rw [← e, List.getElem?_append_right (Nat.le_refl _), Nat.sub_self, hx]
      rfl
    rw [List.getElem?_append_right (by omega), hx', show u.length - u'.length = (u.length - u'.length - 1) + 1 by omega, List.getElem?_cons_succ] at hget
    exact hb (ht' b (List.mem_of_getElem? hget))
  have h1 := key u u' x x' h h' e
  have h2 := key u' u x' x h' h e.symm
  exact List.append_inj' e (by omega)
end Go.Proofs.YthhfmcikfdagiaaDoor.Sp

/-
  Loose states in which the characters of a range lead from the first to the second: what they take, and that few sets are met; no program is named here.
-/
namespace Go.Proofs.YthhfmcikfdagiaaDoor.Sp
open Go.Lib
open Au (Arc Lo Star May has)

/-- What may be takes: where a word leads to a final state. -/
theorem takes_path {n : List Lo} (hM : May n) (w : List Nat) : Au.takes n (Au.first n) w = true ↔ ∃ k s, Path n w k ∧ n[k]? = some s ∧ s.fin = true := by
  unfold Au.takes
  rw [Au.ends_iff]
  constructor
  · rintro ⟨k, s, h1, h2, h3⟩
    exact ⟨k, s, (has_path hM _ w rfl k).1 h1, h2, h3⟩
  · rintro ⟨k, s, h1, h2, h3⟩
    exact ⟨k, s, (has_path hM _ w rfl k).2 h1, h2, h3⟩
/-- The sets that are met are those that words lead to. -/
theorem path_sets {n : List Lo} (hM : May n) (w : List Nat) : w.foldl (Au.over n) (Au.first n) = Au.setOf n.length (Path n w) := by
  have hl : (w.foldl (Au.over n) (Au.first n)).length = n.length := by
    rcases List.eq_nil_or_concat w with rfl | ⟨v, c, rfl⟩
    · exact Au.first_length n
    · rw [List.concat_eq_append, List.foldl_append]
      exact Au.over_length n _ c
  refine Au.set_ext (by rw [hl, Au.setOf_length]) fun i => ?_
  rw [has_path hM _ w rfl, Au.has_setOf]
  constructor
  · intro h
    have h2 := (has_path hM _ w rfl i).2 h
    exact ⟨by rw [← hl]; exact (List.getElem?_eq_some_iff.1 h2).1, h⟩
  · exact fun h => h.2
/-- As many sets as codes at most, where words of one code lead to the same states. -/
theorem few_of_code {n : List Lo} (hM : May n) (N : Nat) (code : List Nat → Nat) (hc : ∀ w, code w < N) (hi : ∀ w w', code w = code w' → ∀ k, Path n w k ↔ Path n w' k) (most : Int) (hN : (N : Int) ≤ most) : ∃ i, Au.Few n most i := by
  classical
  let P : List Bool → Prop := fun S => ∃ w, S = Au.setOf n.length (Path n w)
  let f : List Bool → Nat := fun S => if h : P S then code (Classical.choose h) else 0
  have hb : ∀ i, ((Au.sub n).plain.met (Au.first n) i).length ≤ N := fun i => by
    refine Au.met_few (Au.sub n).plain (fun s => decide_eq_true rfl) f N P (fun S c T hS hg => ?_) (Au.first n) ⟨[], (path_sets hM [])⟩ (fun S hS => ?_) (fun S T hS hT e => ?_) i
    · obtain ⟨w, rfl⟩ := hS
      change (if _ then _ else _) = _ at hg
      split at hg
      · cases hg
      · cases hg
        refine ⟨w ++ [c], ?_⟩
        rw [← path_sets hM, ← path_sets hM, List.foldl_append]
        rfl
    · show (if h : P S then _ else _) < N
      rw [dif_pos hS]
      exact hc _
    · change (if h : P S then _ else _) = (if h : P T then _ else _) at e
      rw [dif_pos hS, dif_pos hT] at e
      have hp := hi _ _ e
      have e1 := Classical.choose_spec hS
      have e2 := Classical.choose_spec hT
      rw [e1, e2]
      refine Au.set_ext (by rw [Au.setOf_length, Au.setOf_length]) fun k => ?_
      rw [Au.has_setOf, Au.has_setOf, hp k]
  exact ⟨N, hb N, by have := hb N; omega⟩
section
variable {n0 n : List Lo} {E : List Edge} {st : Nat → Nat → Nat} {R : List (List (Int × Int))}
/-- Into which row a word leads hangs on how it ends alone. -/
theorem inRow_iff (hE : ∀ ed ∈ E, Shape ed.row) {w : List Nat} {k : Nat} : InRow n0 E st w k ↔ ∃ u x, Part x ∧ w = u ++ x ∧ ∃ e ed, E[e]? = some ed ∧ x.length < ed.row.length ∧ k = st e x.length ∧ PreN ed.row x ∧ MP n0 E u ed.src := by
  constructor
  · rintro ⟨e, ed, u, x, he, h1, h2, rfl, rfl, h3, h4⟩
    exact ⟨u, x, (preN_part (hE _ (List.mem_of_getElem? he)) h3 h1).1, rfl, e, ed, he, h2, rfl, h3, h4⟩
  · rintro ⟨u, x, ⟨b, t, hx, _⟩, rfl, e, ed, he, h2, rfl, h3, h4⟩
    exact ⟨e, ed, u, x, he, by rw [hx]; simp, h2, rfl, rfl, h3, h4⟩
end
section
variable {old : Lo} {R : List (List (Int × Int))}
end
end Go.Proofs.YthhfmcikfdagiaaDoor.Sp

/-
  Loose states in which the characters of a range lead to an end: they take just these characters more, and few sets are met; no program is named here.
-/
namespace Go.Proofs.YthhfmcikfdagiaaDoor.Sp
open Go.Lib
open Au (Arc Lo Star May has)

section
variable {old : Lo} {lo hi : Int}
/-- The bytes of a character. -/
def word (c : Int) : List Nat := (encodeRune c).map UInt8.toNat
theorem word_part {c : Int} (h : Ut.whole c = true) : Part (word c) := by
  have hb : ∀ l : List Int, (∀ x ∈ l, 0 ≤ x ∧ x < 256) → (l.map fun x => x.toNat.toUInt8).map UInt8.toNat = l.map Int.toNat := fun l hl => by
    rw [List.map_map]
    refine List.map_congr_left fun x hx => ?_
    have := hl x hx
    exact Ut.byteZ x this.1 this.2
  have e : word c = (encodeRuneZ c).map Int.toNat := hb _ (encodeRuneZ_byte c)
  rw [e]
  rcases Ut.run_cases c h with ⟨h1, h2, e⟩ | ⟨h1, h2, e⟩ | ⟨h1, e⟩ | ⟨h1, h2, e⟩ <;> rw [e]
  · exact ⟨_, [], rfl, fun h => by have := h.1; omega, fun c hc => by cases hc⟩
  · refine ⟨_, [(128 + c % 64).toNat], rfl, fun h => by have := h.2; omega, fun d hd => ?_⟩
    simp only [List.mem_cons, List.not_mem_nil, or_false] at hd
    subst hd
    exact ⟨by omega, by omega⟩
  · refine ⟨_, [(128 + c / 64 % 64).toNat, (128 + c % 64).toNat], rfl, fun h => by have := h.2; omega, fun d hd => ?_⟩
    simp only [List.mem_cons, List.not_mem_nil, or_false] at hd
    rcases hd with rfl | rfl
    · exact ⟨by omega, by omega⟩
    · exact ⟨by omega, by omega⟩
  · refine ⟨_, [(128 + c / 4096 % 64).toNat, (128 + c / 64 % 64).toNat, (128 + c % 64).toNat], rfl, fun h => by have := h.2; omega, fun d hd => ?_⟩
    simp only [List.mem_cons, List.not_mem_nil, or_false] at hd
    rcases hd with rfl | rfl | rfl
    · exact ⟨by omega, by omega⟩
    · exact ⟨by omega, by omega⟩
    · exact ⟨by omega, by omega⟩
theorem fitsN_iff : ∀ (row : List (Int × Int)) (l : List UInt8), FitsN row (l.map UInt8.toNat) ↔ fits row l = true
  | [], [] => ⟨fun _ => rfl, fun _ => ⟨rfl, Nat.le_refl _, fun i r c h => by simp at h⟩⟩
  | [], _ :: _ => ⟨fun h => by have := h.1; simp at this, fun h => by cases h⟩
  | _ :: _, [] => ⟨fun h => by have := h.1; simp at this, fun h => by cases h⟩
  | r :: rs, c :: cs => by
    have ih := fitsN_iff rs cs
    show _ ↔ (decide _ && fits rs cs) = true
    rw [Bool.and_eq_true, decide_eq_true_iff, ← ih]
    constructor
    · rintro ⟨h1, h2, h3⟩
      refine ⟨h3 0 r c.toNat rfl rfl, by simpa using h1, by simpa using h2, fun i r' c' a b => h3 (i + 1) r' c' (by simpa using a) (by simpa using b)⟩
    · rintro ⟨h0, h1, h2, h3⟩
      refine ⟨by simpa using h1, by simpa using h2, fun i r' c' a b => ?_⟩
      cases i with
      | zero =>
        simp at a b
        subst a b
        exact h0
      | succ i => exact h3 i r' c' (by simpa using a) (by simpa using b)
/-- Some row holds a character: it is in the range. -/
theorem rows_fit (lo hi : Int) {c : Int} (h : Ut.whole c = true) : (∃ row ∈ rows lo hi, FitsN row (word c)) ↔ lo ≤ c ∧ c ≤ hi := by
  have hh := rows_hold lo hi c h
  constructor
  · rintro ⟨row, hrow, hf⟩
    by_cases q : lo ≤ c ∧ c ≤ hi
    · exact q
    · rw [if_neg q] at hh
      have := List.length_eq_zero_iff.1 hh
      rw [List.filter_eq_nil_iff] at this
      exact absurd ((fitsN_iff row (encodeRune c)).1 hf) (this row hrow)
  · intro q
    rw [if_pos q] at hh
    obtain ⟨row, hrow⟩ := List.length_eq_one_iff.1 hh
    have hm : row ∈ (rows lo hi).filter fun r => fits r (encodeRune c) := by rw [hrow]; simp
    rw [List.mem_filter] at hm
    exact ⟨row, hm.1, (fitsN_iff row (encodeRune c)).2 hm.2⟩
end
end Go.Proofs.YthhfmcikfdagiaaDoor.Sp

/-
  The automaton of a pattern, plainly: a state behind each character that isn't a star, a star leads from a state to itself; no program is named here.
-/
namespace Go.Proofs.YthhfmcikfdagiaaDoor.Sp
open Go.Lib
open Au (Arc Lo Star May has)

/-- Rows that lead from one state to another, behind edges that are there. -/
theorem Led.leads {m : Nat} {base : Nat → Lo} {E : List Sp.Edge} {st : Nat → Nat → Nat} {n : List Lo} (h : Led m base E st n) {p q : Nat} (hp : p < m) (hq : q < m) : ∀ (k : Nat) (R : List (List (Int × Int))), R.length = k → (∀ row ∈ R, 0 < row.length) → ∃ st', Led m base (E ++ R.map fun row => ⟨p, row, q⟩) st' (lead n p q R)
  | 0, R, hR, _ => by
    obtain rfl := List.length_eq_zero_iff.1 hR
    exact ⟨st, by simpa [lead] using h⟩
  | k + 1, R, hR, hr => by
    obtain ⟨T, row, rfl⟩ : ∃ T row, R = T ++ [row] := ⟨R.dropLast, R.getLast (by intro e; rw [e] at hR; simp at hR), (List.dropLast_concat_getLast _).symm⟩
    obtain ⟨st', h'⟩ := Led.leads h hp hq k T (by simpa using hR) fun r h => hr r (List.mem_append_left _ h)
    have := h'.snoc p q row hp hq (hr row (by simp))
    rw [← lead_snoc] at this
    rw [List.map_append, ← List.append_assoc]
    exact ⟨_, this⟩
/-- All rows of all characters. -/
theorem rows_full : rows 0 1114111 = [[(0, 127)], [(194, 223), (128, 191)], [(224, 224), (160, 191), (128, 191)], [(225, 236), (128, 191), (128, 191)], [(237, 237), (128, 159), (128, 191)], [(238, 239), (128, 191), (128, 191)], [(240, 240), (144, 191), (128, 191), (128, 191)], [(241, 243), (128, 191), (128, 191), (128, 191)], [(244, 244), (128, 143), (128, 191), (128, 191)]] := by
  decide +kernel
theorem segs_far (c f l : Int) (t : Nat) (ht : t ≤ 3) (hf : 0 ≤ f) (h : c < f ∨ l < c) : segs (max c f) (min c l) t = [] := by
  rw [segs_step _ _ _ ht (by omega), if_neg (by omega)]
theorem segs_near (c f l : Int) (t : Nat) (ht : t ≤ 3) (hf : 0 ≤ f) (h1 : f ≤ c) (h2 : c ≤ l) : ∃ p, segs (max c f) (min c l) t = [p] := by
  have e1 : max c f = c := by omega
  have e2 : min c l = c := by omega
  rw [e1, e2, segs_step _ _ _ ht (by omega), if_pos (Int.le_refl _)]
  obtain ⟨hg, he⟩ := endOf_good c c c c t ht (by omega) (Int.le_refl _) (Int.le_refl _) (Int.le_refl _)
  have := hg.le
  rw [segs_step _ _ _ ht (by omega), if_neg (by omega)]
  exact ⟨_, rfl⟩
/-- One character has one row at most. -/
theorem rows_single (c : Int) : (rows c c).length ≤ 1 := by
  have e : (rows c c).length = (segs (max c 0) (min c 127) 0).length + ((segs (max c 128) (min c 2047) 1).length + ((segs (max c 2048) (min c 55295) 2).length + ((segs (max c 57344) (min c 65535) 2).length + (segs (max c 65536) (min c 1114111) 3).length))) := by
    simp [rows, pairs, cuts]
  rw [e]
  have key : ∀ (f l : Int) (t : Nat), t ≤ 3 → 0 ≤ f → ((c < f ∨ l < c) ∧ (segs (max c f) (min c l) t).length = 0) ∨ ((f ≤ c ∧ c ≤ l) ∧ (segs (max c f) (min c l) t).length = 1) := fun f l t ht hf => by
    by_cases h : c < f ∨ l < c
    · exact .inl ⟨h, by rw [segs_far c f l t ht hf h]; rfl⟩
    · obtain ⟨p, hp⟩ := segs_near c f l t ht hf (by omega) (by omega)
      exact .inr ⟨by omega, by rw [hp]; rfl⟩
  have k1 := key 0 127 0 (by decide) (by decide)
  have k2 := key 128 2047 1 (by decide) (by decide)
  have k3 := key 2048 55295 2 (by decide) (by decide)
  have k4 := key 57344 65535 2 (by decide) (by decide)
  have k5 := key 65536 1114111 3 (by decide) (by decide)
  omega
/-- Two rows that no byte begins both of. -/
def Disj (r r' : List (Int × Int)) : Prop := ∀ x y, r[0]? = some x → r'[0]? = some y → x.2 < y.1 ∨ y.2 < x.1
instance (r r' : List (Int × Int)) : Decidable (Disj r r') :=
  match r, r' with
  | [], _ => isTrue fun x y h => by cases h
  | _ :: _, [] => isTrue fun x y _ h => by cases h
  | x :: _, y :: _ => if h : x.2 < y.1 ∨ y.2 < x.1 then isTrue fun x' y' h1 h2 => by cases h1; cases h2; exact h else isFalse fun k => h (k x y rfl rfl)
theorem full_disj : (rows 0 1114111).Pairwise Disj := by rw [rows_full]; decide +kernel
theorem star_end {n0 : List Lo} {i k : Nat} (h : ∀ (j : Nat) (s : Lo), n0[j]? = some s → s.free = []) (hs : Star n0 i k) : k = i := by
  induction hs with
  | refl => rfl
  | step _ h1 h2 _ => rw [h _ _ h1] at h2; cases h2
end Go.Proofs.YthhfmcikfdagiaaDoor.Sp

namespace Go.Proofs.YthhfmcikfdagiaaDoor.Wl
open Go.Lib
open Au (Arc Lo Star May has)
open Sp (rows lead Led bs Path MP InRow word Part Shape FitsN PreN)

def blank (m : Nat) : List Lo := List.replicate m ⟨false, [], []⟩
def setF (n : List Lo) (k : Nat) : List Lo := n.modify k fun s => ⟨true, s.arcs, s.free⟩
theorem rows_pos (lo hi : Int) : ∀ row ∈ rows lo hi, 0 < row.length := fun _ h => (Sp.rows_shape h).pos
theorem blank_bs (m p : Nat) : bs (blank m) p = ⟨false, [], []⟩ := by
  unfold bs blank
  rw [List.getD_eq_getElem?_getD, List.getElem?_replicate]
  split <;> rfl
end Go.Proofs.YthhfmcikfdagiaaDoor.Wl

/-
  What the automaton of a pattern takes, whose one star, if it has one, stands at its end; it leads to one state at a time, so few sets are met; no program is named here.
-/
namespace Go.Proofs.YthhfmcikfdagiaaDoor.Wl
open Go.Lib
open Au (Arc Lo Star May has)
open Sp (rows lead Led bs Path MP InRow word Part Shape FitsN PreN star_end nxt)

theorem setF_at (n : List Lo) (k i : Nat) : (setF n k)[i]? = (n[i]?).map fun s => if k = i then ⟨true, s.arcs, s.free⟩ else s := by
  unfold setF
  rw [List.getElem?_modify]
  cases n[i]? <;> simp
theorem setF_length (n : List Lo) (k : Nat) : (setF n k).length = n.length := List.length_modify _ _ _
end Go.Proofs.YthhfmcikfdagiaaDoor.Wl

/-
  How far two lists are from one another, plainly: by the least number of edits; it is a distance; it may be reckoned from either end; no program is named here.
-/
namespace Go.Proofs.YthhfmcikfdagiaaDoor.Lv

/-- A list is made another by so many edits. -/
inductive Ed : Nat → List Int → List Int → Prop
  | nil : Ed 0 [] []
  | keep {n : Nat} {a b : List Int} (x : Int) : Ed n a b → Ed n (x :: a) (x :: b)
  | sub {n : Nat} {a b : List Int} (x y : Int) : Ed n a b → Ed (n + 1) (x :: a) (y :: b)
  | del {n : Nat} {a b : List Int} (x : Int) : Ed n a b → Ed (n + 1) (x :: a) b
  | ins {n : Nat} {a b : List Int} (y : Int) : Ed n a b → Ed (n + 1) a (y :: b)
/-- The distance, from the ends. -/
def dist : List Int → List Int → Nat
  | [], b => b.length
  | x :: a, [] => (x :: a).length
  | x :: a, y :: b => min (dist a b + if x = y then 0 else 1) (min (dist a (y :: b) + 1) (dist (x :: a) b + 1))
  termination_by a b => a.length + b.length

theorem dist_nil (b : List Int) : dist [] b = b.length := by simp [dist]
theorem dist_nil' (a : List Int) : dist a [] = a.length := by cases a <;> simp [dist]
theorem dist_cons (x y : Int) (a b : List Int) : dist (x :: a) (y :: b) = min (dist a b + if x = y then 0 else 1) (min (dist a (y :: b) + 1) (dist (x :: a) b + 1)) := by rw [dist]
theorem ed_ins : ∀ b : List Int, Ed b.length [] b
  | [] => .nil
  | y :: b => .ins y (ed_ins b)
theorem ed_del : ∀ a : List Int, Ed a.length a []
  | [] => .nil
  | x :: a => .del x (ed_del a)
/-- So many edits are enough. -/
theorem dist_ed : ∀ (m : Nat) (a b : List Int), a.length + b.length = m → Ed (dist a b) a b := by
  intro m
  induction m using Nat.strongRecOn with
  | _ m ih =>
    intro a b h
    match a, b with
    | [], b => rw [dist_nil]; exact ed_ins b
    | x :: a, [] => rw [dist_nil']; exact ed_del _
    | x :: a, y :: b =>
      simp only [List.length_cons] at h
      have h1 := ih (a.length + b.length) (by omega) a b rfl
      have h2 := ih (a.length + (b.length + 1)) (by omega) a (y :: b) rfl
      have h3 := ih (a.length + 1 + b.length) (by omega) (x :: a) b rfl
      rw [dist_cons]
      have hc : min (dist a b + if x = y then 0 else 1) (min (dist a (y :: b) + 1) (dist (x :: a) b + 1)) = dist a b + (if x = y then 0 else 1) ∨ min (dist a b + if x = y then 0 else 1) (min (dist a (y :: b) + 1) (dist (x :: a) b + 1)) = dist a (y :: b) + 1 ∨ min (dist a b + if x = y then 0 else 1) (min (dist a (y :: b) + 1) (dist (x :: a) b + 1)) = dist (x :: a) b + 1 := by omega
      rcases hc with e | e | e
      · rw [e]
        by_cases hxy : x = y
        · subst hxy
          rw [if_pos rfl]
          exact .keep x h1
        · rw [if_neg hxy]
          exact .sub x y h1
      · rw [e]; exact .del x h2
      · rw [e]; exact .ins y h3
/-- Fewer are not. -/
theorem ed_dist {n : Nat} {a b : List Int} (h : Ed n a b) : dist a b ≤ n := by
  have hdel : ∀ (x : Int) (a b : List Int), dist (x :: a) b ≤ dist a b + 1 := fun x a b => by
    cases b with
    | nil => rw [dist_nil', dist_nil']; simp
    | cons y b => rw [dist_cons]; omega
  have hins : ∀ (y : Int) (a b : List Int), dist a (y :: b) ≤ dist a b + 1 := fun y a b => by
    cases a with
    | nil => rw [dist_nil, dist_nil]; simp
    | cons x a => rw [dist_cons]; omega
  induction h with
  | nil => simp [dist]
  | keep x _ ih => rw [dist_cons, if_pos rfl]; omega
  | @sub n a b x y _ ih =>
    rw [dist_cons]
    split <;> omega
  | @del n a b x _ ih => have := hdel x a b; omega
  | @ins n a b y _ ih => have := hins y a b; omega
theorem Ed.symm {n : Nat} {a b : List Int} (h : Ed n a b) : Ed n b a := by
  induction h with
  | nil => exact .nil
  | keep x _ ih => exact .keep x ih
  | sub x y _ ih => exact .sub y x ih
  | del x _ ih => exact .ins x ih
  | ins y _ ih => exact .del y ih
theorem Ed.append {n m : Nat} {a b c d : List Int} (h : Ed n a b) (g : Ed m c d) : Ed (n + m) (a ++ c) (b ++ d) := by
  induction h with
  | nil => simpa using g
  | keep x _ ih => exact .keep x ih
  | @sub n a b x y _ ih => rw [Nat.succ_add]; exact .sub x y ih
  | @del n a b x _ ih => rw [Nat.succ_add]; exact .del x ih
  | @ins n a b y _ ih => rw [Nat.succ_add]; exact .ins y ih
theorem Ed.reverse {n : Nat} {a b : List Int} (h : Ed n a b) : Ed n a.reverse b.reverse := by
  induction h with
  | nil => exact .nil
  | keep x _ ih => rw [List.reverse_cons, List.reverse_cons]; simpa using ih.append (.keep x .nil)
  | sub x y _ ih => rw [List.reverse_cons, List.reverse_cons]; exact ih.append (.sub x y .nil)
  | del x _ ih => rw [List.reverse_cons]; simpa using ih.append (.del x .nil)
  | ins y _ ih => rw [List.reverse_cons]; simpa using ih.append (.ins y .nil)
/-- By way of a third. -/
theorem Ed.trans {n : Nat} {a b : List Int} (h : Ed n a b) : ∀ {m : Nat} {c : List Int}, Ed m b c → ∃ k, k ≤ n + m ∧ Ed k a c := by
  induction h with
  | nil => exact fun {m c} g => ⟨m, by omega, g⟩
  | @keep n a b x h ih =>
    intro m c g
    generalize hb : x :: b = b' at g
    induction g with
    | nil => cases hb
    | @keep m b2 c2 z g _ =>
      cases hb
      obtain ⟨k, h1, h2⟩ := ih g
      exact ⟨k, h1, .keep x h2⟩
    | @sub m b2 c2 z y g _ =>
      cases hb
      obtain ⟨k, h1, h2⟩ := ih g
      exact ⟨k + 1, by omega, .sub x y h2⟩
    | @del m b2 c2 z g _ =>
      cases hb
      obtain ⟨k, h1, h2⟩ := ih g
      exact ⟨k + 1, by omega, .del x h2⟩
    | @ins m b2 c2 y g ihg =>
      obtain ⟨k, h1, h2⟩ := ihg hb
      exact ⟨k + 1, by omega, .ins y h2⟩
  | @sub n a b x z h ih =>
    intro m c g
    generalize hb : z :: b = b' at g
    induction g with
    | nil => cases hb
    | @keep m b2 c2 z' g _ =>
      cases hb
      obtain ⟨k, h1, h2⟩ := ih g
      exact ⟨k + 1, by omega, .sub x z h2⟩
    | @sub m b2 c2 z' y g _ =>
      cases hb
      obtain ⟨k, h1, h2⟩ := ih g
      exact ⟨k + 1, by omega, .sub x y h2⟩
    | @del m b2 c2 z' g _ =>
      cases hb
      obtain ⟨k, h1, h2⟩ := ih g
      exact ⟨k + 1, by omega, .del x h2⟩
    | @ins m b2 c2 y g ihg =>
      obtain ⟨k, h1, h2⟩ := ihg hb
      exact ⟨k + 1, by omega, .ins y h2⟩
  | @del n a b x h ih =>
    intro m c g
    obtain ⟨k, h1, h2⟩ := ih g
    exact ⟨k + 1, by omega, .del x h2⟩
  | @ins n a b z h ih =>
    intro m c g
    generalize hb : z :: b = b' at g
    induction g with
    | nil => cases hb
    | @keep m b2 c2 z' g _ =>
      cases hb
      obtain ⟨k, h1, h2⟩ := ih g
      exact ⟨k + 1, by omega, .ins z h2⟩
    | @sub m b2 c2 z' y g _ =>
      cases hb
      obtain ⟨k, h1, h2⟩ := ih g
      exact ⟨k + 1, by omega, .ins y h2⟩
    | @del m b2 c2 z' g _ =>
      cases hb
      obtain ⟨k, h1, h2⟩ := ih g
      exact ⟨k, by omega, h2⟩
    | @ins m b2 c2 y g ihg =>
      obtain ⟨k, h1, h2⟩ := ihg hb
      exact ⟨k + 1, by omega, .ins y h2⟩
theorem Ed.zero {a b : List Int} (h : Ed 0 a b) : a = b := by
  generalize hn : 0 = n at h
  induction h with
  | nil => rfl
  | keep x _ ih => rw [ih hn]
  | sub _ _ _ _ => omega
  | del _ _ _ => omega
  | ins _ _ _ => omega
theorem Ed.refl : ∀ a : List Int, Ed 0 a a
  | [] => .nil
  | x :: a => .keep x (Ed.refl a)
theorem Ed.len {n : Nat} {a b : List Int} (h : Ed n a b) : a.length ≤ b.length + n ∧ b.length ≤ a.length + n := by
  induction h <;> simp only [List.length_cons, List.length_nil] at * <;> omega
theorem ed_max : ∀ a b : List Int, ∃ k, k ≤ max a.length b.length ∧ Ed k a b
  | [], b => ⟨b.length, by simp, ed_ins b⟩
  | x :: a, [] => ⟨(x :: a).length, by simp, ed_del _⟩
  | x :: a, y :: b => by
    obtain ⟨k, h1, h2⟩ := ed_max a b
    exact ⟨k + 1, by simp only [List.length_cons]; omega, .sub x y h2⟩

theorem dist_symm (a b : List Int) : dist a b = dist b a :=
  Nat.le_antisymm (ed_dist (dist_ed _ b a rfl).symm) (ed_dist (dist_ed _ a b rfl).symm)
theorem dist_reverse (a b : List Int) : dist a.reverse b.reverse = dist a b := by
  refine Nat.le_antisymm (ed_dist (dist_ed _ a b rfl).reverse) ?_
  have := ed_dist (dist_ed _ a.reverse b.reverse rfl).reverse
  rwa [List.reverse_reverse, List.reverse_reverse] at this
theorem dist_zero {a b : List Int} : dist a b = 0 ↔ a = b := by
  constructor
  · intro h
    have := dist_ed _ a b rfl
    rw [h] at this
    exact this.zero
  · rintro rfl
    exact Nat.le_zero.1 (ed_dist (Ed.refl a))
theorem dist_way (a b c : List Int) : dist a c ≤ dist a b + dist b c := by
  obtain ⟨k, h1, h2⟩ := (dist_ed _ a b rfl).trans (dist_ed _ b c rfl)
  exact Nat.le_trans (ed_dist h2) h1
theorem dist_max (a b : List Int) : dist a b ≤ max a.length b.length := by
  obtain ⟨k, h1, h2⟩ := ed_max a b
  exact Nat.le_trans (ed_dist h2) h1
theorem dist_len (a b : List Int) : a.length ≤ b.length + dist a b ∧ b.length ≤ a.length + dist a b := (dist_ed _ a b rfl).len
/-- From the beginnings. -/
theorem dist_snoc (a b : List Int) (x y : Int) : dist (a ++ [x]) (b ++ [y]) = min (dist a b + if x = y then 0 else 1) (min (dist a (b ++ [y]) + 1) (dist (a ++ [x]) b + 1)) := by
  have e : ∀ l r : List Int, dist l r = dist l.reverse r.reverse := fun l r => (dist_reverse l r).symm
  rw [e (a ++ [x]) (b ++ [y]), e a b, e a (b ++ [y]), e (a ++ [x]) b]
  simp only [List.reverse_append, List.reverse_cons, List.reverse_nil, List.nil_append, List.singleton_append]
  exact dist_cons x y a.reverse b.reverse
end Go.Proofs.YthhfmcikfdagiaaDoor.Lv

/-
  The loose states of a word and its edits, plainly: how they are made, one place behind the other, and what stands there at the end; no program is named here.
-/
namespace Go.Proofs.YthhfmcikfdagiaaDoor.Sp
open Go.Lib
open Au (Arc Lo Star May has)
theorem Led.congr {m : Nat} {base base' : Nat → Lo} {E : List Edge} {st : Nat → Nat → Nat} {n : List Lo} (h : Led m base E st n) (hb : ∀ p, p < m → base p = base' p) : Led m base' E st n :=
  ⟨h.size, fun p hp => by rw [← hb p hp]; exact h.main p hp, h.chain, h.inj, h.all, h.src⟩
/-- One of the first states is said anew, but for its arcs. -/
theorem Led.anew {m : Nat} {base : Nat → Lo} {E : List Edge} {st : Nat → Nat → Nat} {n : List Lo} (h : Led m base E st n) (k : Nat) (hk : k < m) (fin : Bool → Bool) (fr : List Int → List Int) :
    Led m (fun p => if p = k then ⟨fin (base p).fin, (base p).arcs, fr (base p).free⟩ else base p) E st (n.modify k fun s => ⟨fin s.fin, s.arcs, fr s.free⟩) := by
  have hat : ∀ i, (n.modify k fun s => (⟨fin s.fin, s.arcs, fr s.free⟩ : Lo))[i]? = (n[i]?).map fun s => if k = i then ⟨fin s.fin, s.arcs, fr s.free⟩ else s := fun i => by
    rw [List.getElem?_modify]
    cases n[i]? <;> simp
  refine ⟨by rw [List.length_modify]; exact h.size, fun p hp => ?_, fun e ed j r h1 h2 h3 => ?_, h.inj, fun i h1 h2 => h.all i h1 (by rw [List.length_modify] at h2; exact h2), h.src⟩
  · obtain ⟨A, h1, h2⟩ := h.main p hp
    refine ⟨A, ?_, h2⟩
    rw [hat, h1]
    by_cases hpk : p = k
    · simp [hpk]
    · simp [hpk, Ne.symm hpk]
  · obtain ⟨h4, h5⟩ := h.chain e ed j r h1 h2 h3
    refine ⟨?_, h5⟩
    rw [hat, h4]
    have : k ≠ st e j := by omega
    simp [this]
/-- What holds a character's one row is its bytes. -/
theorem one_fit {c : Int} {row : List (Int × Int)} (h : row ∈ rows c c) {x : List Nat} (hf : FitsN row x) : x = word c := by
  obtain ⟨p, hp, rfl⟩ := List.mem_map.1 h
  obtain ⟨f, l, tails, t, _, hg, h1, h2⟩ := pairs_all c c p hp
  have h3 := hg.le
  have e1 : p.1 = c := by omega
  have e2 : p.2 = c := by omega
  have hz : ∀ (z : List Int) (x : List Nat), FitsN (z.zip z) x → x = z.map Int.toNat := by
    intro z
    induction z with
    | nil => intro x hx; exact List.length_eq_zero_iff.1 hx.1
    | cons a z ih =>
      intro x hx
      obtain ⟨h1, h2, h3⟩ := hx
      cases x with
      | nil => simp at h1
      | cons b x =>
        have hb := h3 0 (a, a) b rfl rfl
        have hb2 : b = a.toNat := by dsimp only at hb; omega
        rw [hb2, ih x ⟨by simpa using h1, by simpa using h2, fun i r c' a' b' => h3 (i + 1) r c' (by simpa using a') (by simpa using b')⟩]
        rfl
  unfold rowOf at hf
  rw [e1, e2] at hf
  rw [hz _ _ hf]
  unfold word encodeRune
  rw [List.map_map]
  refine List.map_congr_left fun y hy => ?_
  have := encodeRuneZ_byte c y hy
  exact (Ut.byteZ y this.1 this.2).symm
theorem word_z (c : Int) : word c = (encodeRuneZ c).map Int.toNat := by
  unfold word encodeRune
  rw [List.map_map]
  refine List.map_congr_left fun y hy => ?_
  have := encodeRuneZ_byte c y hy
  exact Ut.byteZ y this.1 this.2
/-- What a row of all characters holds is a character. -/
theorem full_fit {row : List (Int × Int)} (h : row ∈ rows 0 1114111) {x : List Nat} (hf : FitsN row x) : ∃ c, Ut.whole c = true ∧ x = word c := by
  have key : ∀ c : Int, Ut.whole c = true → (encodeRuneZ c).map Int.toNat = x → ∃ c, Ut.whole c = true ∧ x = word c := fun c hc e => ⟨c, hc, by rw [word_z, e]⟩
  rw [rows_full] at h
  obtain ⟨hl, _, hp⟩ := hf
  have one : row.length = 1 → ∃ a, x = [a] := fun e => List.length_eq_one_iff.1 (hl.trans e)
  have two : row.length = 2 → ∃ a b, x = [a, b] := fun e => by
    have e2 := hl.trans e
    match x, e2 with
    | [a, b], _ => exact ⟨a, b, rfl⟩
  have three : row.length = 3 → ∃ a b c, x = [a, b, c] := fun e => by
    have e2 := hl.trans e
    match x, e2 with
    | [a, b, c], _ => exact ⟨a, b, c, rfl⟩
  have four : row.length = 4 → ∃ a b c d, x = [a, b, c, d] := fun e => by
    have e2 := hl.trans e
    match x, e2 with
    | [a, b, c, d], _ => exact ⟨a, b, c, d, rfl⟩
  simp only [List.mem_cons, List.not_mem_nil, or_false] at h
  have g0 := fun r c => hp 0 r c
  have g1 := fun r c => hp 1 r c
  have g2 := fun r c => hp 2 r c
  have g3 := fun r c => hp 3 r c
  rcases h with rfl | rfl | rfl | rfl | rfl | rfl | rfl | rfl | rfl
  · obtain ⟨a, rfl⟩ := one rfl
    have q0 := g0 _ _ rfl rfl
    have hw : Ut.whole (a : Int) = true := Ut.whole_iff.2 (by omega)
    refine key a hw ?_
    rcases Ut.run_cases _ hw with ⟨_, _, e⟩ | ⟨h1, h2, e⟩ | ⟨h1, e⟩ | ⟨h1, h2, e⟩
    · rw [e]; simp
    · omega
    · omega
    · omega
  · obtain ⟨a, b, rfl⟩ := two rfl
    have q0 := g0 _ _ rfl rfl
    have q1 := g1 _ _ rfl rfl
    dsimp only at q0 q1
    have hw : Ut.whole (((a : Int) - 192) * 64 + ((b : Int) - 128)) = true := Ut.whole_iff.2 (by omega)
    refine key _ hw ?_
    rcases Ut.run_cases _ hw with ⟨_, _, e⟩ | ⟨h1, h2, e⟩ | ⟨h1, e⟩ | ⟨h1, h2, e⟩
    · omega
    · rw [e]; simp only [List.map_cons, List.map_nil, List.cons.injEq, and_true]; omega
    · omega
    · omega
  · obtain ⟨a, b, c, rfl⟩ := three rfl
    have q0 := g0 _ _ rfl rfl
    have q1 := g1 _ _ rfl rfl
    have q2 := g2 _ _ rfl rfl
    dsimp only at q0 q1 q2
    have hw : Ut.whole (((a : Int) - 224) * 4096 + ((b : Int) - 128) * 64 + ((c : Int) - 128)) = true := Ut.whole_iff.2 (by omega)
    refine key _ hw ?_
    rcases Ut.run_cases _ hw with ⟨_, _, e⟩ | ⟨h1, h2, e⟩ | ⟨h1, e⟩ | ⟨h1, h2, e⟩
    · omega
    · omega
    · rw [e]; simp only [List.map_cons, List.map_nil, List.cons.injEq, and_true]; omega
    · omega
  · obtain ⟨a, b, c, rfl⟩ := three rfl
    have q0 := g0 _ _ rfl rfl
    have q1 := g1 _ _ rfl rfl
    have q2 := g2 _ _ rfl rfl
    dsimp only at q0 q1 q2
    have hw : Ut.whole (((a : Int) - 224) * 4096 + ((b : Int) - 128) * 64 + ((c : Int) - 128)) = true := Ut.whole_iff.2 (by omega)
    refine key _ hw ?_
    rcases Ut.run_cases _ hw with ⟨_, _, e⟩ | ⟨h1, h2, e⟩ | ⟨h1, e⟩ | ⟨h1, h2, e⟩
    · omega
    · omega
    · rw [e]; simp only [List.map_cons, List.map_nil, List.cons.injEq, and_true]; omega
    · omega
  · obtain ⟨a, b, c, rfl⟩ := three rfl
    have q0 := g0 _ _ rfl rfl
    have q1 := g1 _ _ rfl rfl
    have q2 := g2 _ _ rfl rfl
    dsimp only at q0 q1 q2
    have hw : Ut.whole (((a : Int) - 224) * 4096 + ((b : Int) - 128) * 64 + ((c : Int) - 128)) = true := Ut.whole_iff.2 (by omega)
    refine key _ hw ?_
    rcases Ut.run_cases _ hw with ⟨_, _, e⟩ | ⟨h1, h2, e⟩ | ⟨h1, e⟩ | ⟨h1, h2, e⟩
    · omega
    · omega
    · rw [e]; simp only [List.map_cons, List.map_nil, List.cons.injEq, and_true]; omega
    · omega
  · obtain ⟨a, b, c, rfl⟩ := three rfl
    have q0 := g0 _ _ rfl rfl
    have q1 := g1 _ _ rfl rfl
    have q2 := g2 _ _ rfl rfl
    dsimp only at q0 q1 q2
    have hw : Ut.whole (((a : Int) - 224) * 4096 + ((b : Int) - 128) * 64 + ((c : Int) - 128)) = true := Ut.whole_iff.2 (by omega)
    refine key _ hw ?_
    rcases Ut.run_cases _ hw with ⟨_, _, e⟩ | ⟨h1, h2, e⟩ | ⟨h1, e⟩ | ⟨h1, h2, e⟩
    · omega
    · omega
    · rw [e]; simp only [List.map_cons, List.map_nil, List.cons.injEq, and_true]; omega
    · omega
  all_goals
    obtain ⟨a, b, c, d, rfl⟩ := four rfl
    have q0 := g0 _ _ rfl rfl
    have q1 := g1 _ _ rfl rfl
    have q2 := g2 _ _ rfl rfl
    have q3 := g3 _ _ rfl rfl
    dsimp only at q0 q1 q2 q3
    have hw : Ut.whole (((a : Int) - 240) * 262144 + ((b : Int) - 128) * 4096 + ((c : Int) - 128) * 64 + ((d : Int) - 128)) = true := Ut.whole_iff.2 (by omega)
    refine key _ hw ?_
    rcases Ut.run_cases _ hw with ⟨_, _, e⟩ | ⟨h1, h2, e⟩ | ⟨h1, e⟩ | ⟨h1, h2, e⟩
    · omega
    · omega
    · omega
    · rw [e]; simp only [List.map_cons, List.map_nil, List.cons.injEq, and_true]; omega
end Go.Proofs.YthhfmcikfdagiaaDoor.Sp

namespace Go.Proofs.YthhfmcikfdagiaaDoor.Lv
open Go.Lib
open Au (Arc Lo Star May has)
open Sp (rows lead Led bs Path MP InRow word Part Shape FitsN PreN)
open Wl (setF)

/-- Where a state stands. -/
def pl (n row k : Nat) : Nat := row * (n + 1) + k
theorem pl_lt {n row R k : Nat} (h : row < R) (hk : k ≤ n) : pl n row k < R * (n + 1) := by
  unfold pl
  have := Nat.mul_le_mul_right (n + 1) (show row + 1 ≤ R from h)
  rw [Nat.succ_mul] at this
  omega
theorem pl_inj {n row row' k k' : Nat} (hk : k ≤ n) (hk' : k' ≤ n) (h : pl n row k = pl n row' k') : row = row' ∧ k = k' := by
  unfold pl at h
  have key : ∀ {row row' k k' : Nat}, k ≤ n → k' ≤ n → row * (n + 1) + k = row' * (n + 1) + k' → ¬ row < row' := by
    intro row row' k k' hk hk' h hlt
    have := Nat.mul_le_mul_right (n + 1) (show row + 1 ≤ row' from hlt)
    rw [Nat.succ_mul] at this
    omega
  have h1 := key hk hk' h
  have h2 := key hk' hk h.symm
  obtain rfl : row = row' := by omega
  exact ⟨rfl, by omega⟩
/-- What leads on by nothing is said anew. -/
def setR (L : List Lo) (p : Nat) (f : List Int) : List Lo := L.modify p fun s => ⟨s.fin, s.arcs, f⟩
/-- A row of the word's characters. -/
def in1 (cs : List Int) (L : List Lo) (r : Nat) : Nat → List Lo
  | 0 => L
  | k + 1 => lead (in1 cs L r k) (pl cs.length (2 * r) k) (pl cs.length (2 * r) (k + 1)) (rows (cs.getD k 0) (cs.getD k 0))
def out1 (cs : List Int) (m : Nat) : Nat → List Lo
  | 0 => Wl.blank m
  | r + 1 => in1 cs (out1 cs m r) r cs.length
/-- A row of edits. -/
def in2 (n x : Nat) (L : List Lo) (r : Nat) : Nat → List Lo
  | 0 => L
  | k + 1 => setR (setR (lead (in2 n x L r k) (pl n (2 * r) (x + k)) (pl n (2 * r + 1) (x + k)) (rows 0 1114111)) (pl n (2 * r) (x + k)) [(pl n (2 * r + 1) (x + k) : Int)]) (pl n (2 * r + 1) (x + k)) [(pl n (2 * r + 2) (x + k) : Int), (pl n (2 * r + 2) (min (x + k + 1) n) : Int)]
def out2 (n x : Nat) (L : List Lo) : Nat → List Lo
  | 0 => L
  | r + 1 => in2 n x (out2 n x L r) r (n + 1 - x)
/-- The states of a word. -/
def auto (cs : List Int) (K x : Nat) : List Lo := setF (out2 cs.length x (out1 cs ((2 * K + 1) * (cs.length + 1)) (K + 1)) K) (pl cs.length (2 * K) cs.length)

/-- What leads on by nothing where edits are. -/
def Fr (n : Nat) (F : Nat → Nat → Prop) (p : Nat) (f : Int) : Prop :=
  ∃ r k, F r k ∧ ((p = pl n (2 * r) k ∧ f = (pl n (2 * r + 1) k : Nat)) ∨ (p = pl n (2 * r + 1) k ∧ (f = (pl n (2 * r + 2) k : Nat) ∨ f = (pl n (2 * r + 2) (min (k + 1) n) : Nat))))
/-- The edges where characters and edits are. -/
def Ee (cs : List Int) (C F : Nat → Nat → Prop) (ed : Sp.Edge) : Prop :=
  (∃ r k, C r k ∧ ∃ row ∈ rows (cs.getD k 0) (cs.getD k 0), ed = ⟨pl cs.length (2 * r) k, row, pl cs.length (2 * r) (k + 1)⟩) ∨
  (∃ r k, F r k ∧ ∃ row ∈ rows 0 1114111, ed = ⟨pl cs.length (2 * r) k, row, pl cs.length (2 * r + 1) k⟩)
/-- States that are half made. -/
structure Half (cs : List Int) (m : Nat) (C F : Nat → Nat → Prop) (base : Nat → Lo) (E : List Sp.Edge) (st : Nat → Nat → Nat) (L : List Lo) : Prop where
  led : Led m base E st L
  bare : ∀ p, (base p).fin = false ∧ (base p).arcs = []
  free : ∀ p f, f ∈ (base p).free ↔ Fr cs.length F p f
  edge : ∀ ed, ed ∈ E ↔ Ee cs C F ed
  top : ∀ r k, F r k → k ≤ cs.length
theorem Half.congr {cs : List Int} {m : Nat} {C F C' F' : Nat → Nat → Prop} {base : Nat → Lo} {E : List Sp.Edge} {st : Nat → Nat → Nat} {L : List Lo} (h : Half cs m C F base E st L) (hC : ∀ r k, C r k ↔ C' r k) (hF : ∀ r k, F r k ↔ F' r k) : Half cs m C' F' base E st L := by
  obtain rfl : C = C' := funext fun r => funext fun k => propext (hC r k)
  obtain rfl : F = F' := funext fun r => funext fun k => propext (hF r k)
  exact h
theorem half_blank (cs : List Int) (m : Nat) : Half cs m (fun _ _ => False) (fun _ _ => False) (fun _ => ⟨false, [], []⟩) [] (fun _ _ => 0) (Wl.blank m) := by
  refine ⟨?_, fun p => ⟨rfl, rfl⟩, fun p f => ⟨fun h => (by cases h), fun ⟨_, _, h, _⟩ => h.elim⟩, fun ed => ⟨fun h => (by cases h), ?_⟩, fun r k h => h.elim⟩
  · have h0 : Led (Wl.blank m).length (bs (Wl.blank m)) [] (fun _ _ => 0) (Wl.blank m) := Led.nil _ _ (fun _ h => Sp.bs_at h) _
    have hl : (Wl.blank m).length = m := by simp [Wl.blank]
    rw [hl] at h0
    exact h0.congr fun p _ => Wl.blank_bs m p
  · rintro (⟨_, _, h, _⟩ | ⟨_, _, h, _⟩)
    · exact h.elim
    · exact h.elim
theorem Half.char {cs : List Int} {m : Nat} {C F : Nat → Nat → Prop} {base : Nat → Lo} {E : List Sp.Edge} {st : Nat → Nat → Nat} {L : List Lo} (h : Half cs m C F base E st L) {r k : Nat} (hr : 2 * r < m / (cs.length + 1)) (hk : k < cs.length) :
    ∃ E' st', Half cs m (fun r' k' => C r' k' ∨ (r' = r ∧ k' = k)) F base E' st' (lead L (pl cs.length (2 * r) k) (pl cs.length (2 * r) (k + 1)) (rows (cs.getD k 0) (cs.getD k 0))) := by
  have hm := Nat.div_mul_le_self m (cs.length + 1)
  have h1 := pl_lt hr (show k ≤ cs.length by omega)
  have h2 := pl_lt hr (show k + 1 ≤ cs.length by omega)
  obtain ⟨st', h3⟩ := h.led.leads (p := pl cs.length (2 * r) k) (q := pl cs.length (2 * r) (k + 1)) (by omega) (by omega) _ (rows (cs.getD k 0) (cs.getD k 0)) rfl (Wl.rows_pos _ _)
  refine ⟨_, st', h3, h.bare, h.free, fun ed => ?_, h.top⟩
  rw [List.mem_append, h.edge, List.mem_map]
  unfold Ee
  constructor
  · rintro ((⟨r', k', a, b⟩ | b) | ⟨row, a, rfl⟩)
    · exact .inl ⟨r', k', .inl a, b⟩
    · exact .inr b
    · exact .inl ⟨r, k, .inr ⟨rfl, rfl⟩, row, a, rfl⟩
  · rintro (⟨r', k', a | ⟨rfl, rfl⟩, b⟩ | b)
    · exact .inl (.inl ⟨r', k', a, b⟩)
    · obtain ⟨row, c, rfl⟩ := b
      exact .inr ⟨row, c, rfl⟩
    · exact .inl (.inr b)
theorem Half.edit {cs : List Int} {m : Nat} {C F : Nat → Nat → Prop} {base : Nat → Lo} {E : List Sp.Edge} {st : Nat → Nat → Nat} {L : List Lo} (h : Half cs m C F base E st L) {r k : Nat} (hr : 2 * r + 1 < m / (cs.length + 1)) (hk : k ≤ cs.length) (hF : ¬ F r k) :
    ∃ base' E' st', Half cs m C (fun r' k' => F r' k' ∨ (r' = r ∧ k' = k)) base' E' st' (setR (setR (lead L (pl cs.length (2 * r) k) (pl cs.length (2 * r + 1) k) (rows 0 1114111)) (pl cs.length (2 * r) k) [(pl cs.length (2 * r + 1) k : Int)]) (pl cs.length (2 * r + 1) k) [(pl cs.length (2 * r + 2) k : Int), (pl cs.length (2 * r + 2) (min (k + 1) cs.length) : Int)]) := by
  have hm := Nat.div_mul_le_self m (cs.length + 1)
  have h1 := pl_lt (show 2 * r < m / (cs.length + 1) by omega) hk
  have h2 := pl_lt hr hk
  have hne : pl cs.length (2 * r) k ≠ pl cs.length (2 * r + 1) k := fun e => by
    have := (pl_inj hk hk e).1
    omega
  obtain ⟨st', h3⟩ := h.led.leads (p := pl cs.length (2 * r) k) (q := pl cs.length (2 * r + 1) k) (by omega) (by omega) _ (rows 0 1114111) rfl (Wl.rows_pos _ _)
  have h4 := (h3.anew (pl cs.length (2 * r) k) (by omega) id (fun _ => [(pl cs.length (2 * r + 1) k : Int)])).anew (pl cs.length (2 * r + 1) k) (by omega) id (fun _ => [(pl cs.length (2 * r + 2) k : Int), (pl cs.length (2 * r + 2) (min (k + 1) cs.length) : Int)])
  refine ⟨_, _, st', h4, fun p => ?_, fun p f => ?_, fun ed => ?_, fun r' k' a => ?_⟩
  · have := h.bare p
    dsimp only [id]
    split <;> split <;> exact this
  · -- the two places that are said anew led nowhere
    have z1 : ∀ f, ¬ Fr cs.length F (pl cs.length (2 * r) k) f := by
      rintro f ⟨r', k', a, ⟨b, _⟩ | ⟨b, _⟩⟩
      · obtain ⟨c, rfl⟩ := pl_inj hk (h.top _ _ a) b
        obtain rfl : r' = r := by omega
        exact hF a
      · have := (pl_inj hk (h.top _ _ a) b).1
        omega
    have z2 : ∀ f, ¬ Fr cs.length F (pl cs.length (2 * r + 1) k) f := by
      rintro f ⟨r', k', a, ⟨b, _⟩ | ⟨b, _⟩⟩
      · have := (pl_inj hk (h.top _ _ a) b).1
        omega
      · obtain ⟨c, rfl⟩ := pl_inj hk (h.top _ _ a) b
        obtain rfl : r' = r := by omega
        exact hF a
    have hfr : Fr cs.length (fun r' k' => F r' k' ∨ (r' = r ∧ k' = k)) p f ↔ Fr cs.length F p f ∨ ((p = pl cs.length (2 * r) k ∧ f = (pl cs.length (2 * r + 1) k : Nat)) ∨ (p = pl cs.length (2 * r + 1) k ∧ (f = (pl cs.length (2 * r + 2) k : Nat) ∨ f = (pl cs.length (2 * r + 2) (min (k + 1) cs.length) : Nat)))) := by
      constructor
      · rintro ⟨r', k', a | ⟨rfl, rfl⟩, b⟩
        · exact .inl ⟨r', k', a, b⟩
        · exact .inr b
      · rintro (⟨r', k', a, b⟩ | b)
        · exact ⟨r', k', .inl a, b⟩
        · exact ⟨r, k, .inr ⟨rfl, rfl⟩, b⟩
    rw [hfr]
    dsimp only [id]
    by_cases e2 : p = pl cs.length (2 * r + 1) k
    · rw [if_pos e2]
      have hne2 : p ≠ pl cs.length (2 * r) k := fun e => hne (e.symm.trans e2)
      simp only [List.mem_cons, List.not_mem_nil, or_false, e2, z2, false_or, true_and]
      constructor
      · exact fun q => .inr q
      · rintro (⟨q, _⟩ | q)
        · exact absurd q.symm hne
        · exact q
    · rw [if_neg e2]
      by_cases e1 : p = pl cs.length (2 * r) k
      · rw [if_pos e1]
        simp only [List.mem_singleton, e1, z1, false_or, true_and]
        constructor
        · exact fun q => .inl q
        · rintro (q | ⟨q, _⟩)
          · exact q
          · exact absurd q hne
      · rw [if_neg e1, h.free]
        constructor
        · exact fun q => .inl q
        · rintro (q | ⟨q, _⟩ | ⟨q, _⟩)
          · exact q
          · exact absurd q e1
          · exact absurd q e2
  · rw [List.mem_append, h.edge, List.mem_map]
    unfold Ee
    constructor
    · rintro ((b | ⟨r', k', a, b⟩) | ⟨row, a, rfl⟩)
      · exact .inl b
      · exact .inr ⟨r', k', .inl a, b⟩
      · exact .inr ⟨r, k, .inr ⟨rfl, rfl⟩, row, a, rfl⟩
    · rintro (b | ⟨r', k', a | ⟨rfl, rfl⟩, b⟩)
      · exact .inl (.inl b)
      · exact .inl (.inr ⟨r', k', a, b⟩)
      · obtain ⟨row, c, rfl⟩ := b
        exact .inr ⟨row, c, rfl⟩
  · rcases a with a | ⟨rfl, rfl⟩
    · exact h.top _ _ a
    · exact hk

theorem half_in1 {cs : List Int} {m : Nat} {C F : Nat → Nat → Prop} {base : Nat → Lo} {E : List Sp.Edge} {st : Nat → Nat → Nat} {L : List Lo} (h : Half cs m C F base E st L) {r : Nat} (hr : 2 * r < m / (cs.length + 1)) : ∀ k, k ≤ cs.length → ∃ E' st', Half cs m (fun r' k' => C r' k' ∨ (r' = r ∧ k' < k)) F base E' st' (in1 cs L r k)
  | 0, _ => ⟨E, st, h.congr (fun r' k' => by simp) fun _ _ => Iff.rfl⟩
  | k + 1, hk => by
    obtain ⟨E1, st1, h1⟩ := half_in1 h hr k (by omega)
    obtain ⟨E2, st2, h2⟩ := h1.char hr (show k < cs.length by omega)
    refine ⟨E2, st2, h2.congr (fun r' k' => ?_) fun _ _ => Iff.rfl⟩
    constructor
    · rintro ((a | ⟨a, b⟩) | ⟨a, b⟩)
      · exact .inl a
      · exact .inr ⟨a, by omega⟩
      · exact .inr ⟨a, by omega⟩
    · rintro (a | ⟨a, b⟩)
      · exact .inl (.inl a)
      · by_cases e : k' = k
        · exact .inr ⟨a, e⟩
        · exact .inl (.inr ⟨a, by omega⟩)
theorem half_out1 (cs : List Int) {m : Nat} : ∀ R, 2 * R ≤ m / (cs.length + 1) + 1 → ∃ E st, Half cs m (fun r k => r < R ∧ k < cs.length) (fun _ _ => False) (fun _ => ⟨false, [], []⟩) E st (out1 cs m R)
  | 0, _ => ⟨[], fun _ _ => 0, (half_blank cs m).congr (fun r k => by simp) fun _ _ => Iff.rfl⟩
  | R + 1, hR => by
    obtain ⟨E, st, h⟩ := half_out1 cs (m := m) R (by omega)
    obtain ⟨E1, st1, h1⟩ := half_in1 h (show 2 * R < _ by omega) cs.length (Nat.le_refl _)
    refine ⟨E1, st1, h1.congr (fun r k => ?_) fun _ _ => Iff.rfl⟩
    constructor
    · rintro (⟨a, b⟩ | ⟨a, b⟩)
      · exact ⟨by omega, b⟩
      · exact ⟨by omega, b⟩
    · rintro ⟨a, b⟩
      by_cases e : r = R
      · exact .inr ⟨e, b⟩
      · exact .inl ⟨by omega, b⟩
theorem half_in2 {cs : List Int} {m x : Nat} {C F : Nat → Nat → Prop} {base : Nat → Lo} {E : List Sp.Edge} {st : Nat → Nat → Nat} {L : List Lo} (h : Half cs m C F base E st L) {r : Nat} (hr : 2 * r + 1 < m / (cs.length + 1)) (hF : ∀ k, ¬ F r k) : ∀ k, x + k ≤ cs.length + 1 → ∃ base' E' st', Half cs m C (fun r' k' => F r' k' ∨ (r' = r ∧ x ≤ k' ∧ k' < x + k)) base' E' st' (in2 cs.length x L r k)
  | 0, _ => ⟨base, E, st, h.congr (fun _ _ => Iff.rfl) fun r' k' => by
      constructor
      · exact fun a => .inl a
      · rintro (a | ⟨_, a, b⟩)
        · exact a
        · omega⟩
  | k + 1, hk => by
    obtain ⟨b1, E1, st1, h1⟩ := half_in2 (x := x) h hr hF k (by omega)
    obtain ⟨b2, E2, st2, h2⟩ := h1.edit hr (show x + k ≤ cs.length by omega) (by
      rintro (a | ⟨_, _, a⟩)
      · exact hF _ a
      · omega)
    refine ⟨b2, E2, st2, h2.congr (fun _ _ => Iff.rfl) fun r' k' => ?_⟩
    constructor
    · rintro ((a | ⟨a, b⟩) | ⟨a, b⟩)
      · exact .inl a
      · exact .inr ⟨a, by omega⟩
      · exact .inr ⟨a, by omega⟩
    · rintro (a | ⟨a, b⟩)
      · exact .inl (.inl a)
      · by_cases e : k' = x + k
        · exact .inr ⟨a, e⟩
        · exact .inl (.inr ⟨a, by omega⟩)
theorem half_out2 {cs : List Int} {m x : Nat} {C : Nat → Nat → Prop} {base : Nat → Lo} {E : List Sp.Edge} {st : Nat → Nat → Nat} {L : List Lo} (h : Half cs m C (fun _ _ => False) base E st L) (hx : x ≤ cs.length) : ∀ R, 2 * R ≤ m / (cs.length + 1) → ∃ base' E' st', Half cs m C (fun r k => r < R ∧ x ≤ k ∧ k ≤ cs.length) base' E' st' (out2 cs.length x L R)
  | 0, _ => ⟨base, E, st, h.congr (fun _ _ => Iff.rfl) fun r k => by simp⟩
  | R + 1, hR => by
    obtain ⟨b1, E1, st1, h1⟩ := half_out2 h hx R (by omega)
    obtain ⟨b2, E2, st2, h2⟩ := half_in2 (x := x) h1 (show 2 * R + 1 < _ by omega) (fun k a => by have := a.1; omega) (cs.length + 1 - x) (by omega)
    refine ⟨b2, E2, st2, h2.congr (fun _ _ => Iff.rfl) fun r k => ?_⟩
    constructor
    · rintro (⟨a, b, c⟩ | ⟨a, b, c⟩)
      · exact ⟨by omega, b, c⟩
      · exact ⟨by omega, b, by omega⟩
    · rintro ⟨a, b, c⟩
      by_cases e : r = R
      · exact .inr ⟨e, b, by omega⟩
      · exact .inl ⟨by omega, b, c⟩

/-- The states of a word, with edits up to K, behind x characters as they are. -/
structure Fz (cs : List Int) (K x : Nat) (n0 : List Lo) (E : List Sp.Edge) (st : Nat → Nat → Nat) (n : List Lo) : Prop where
  led : Led n0.length (bs n0) E st n
  size : n0.length = (2 * K + 1) * (cs.length + 1)
  arcs : ∀ (j : Nat) s, n0[j]? = some s → s.arcs = []
  fin : ∀ (j : Nat) s, n0[j]? = some s → (s.fin = true ↔ j = pl cs.length (2 * K) cs.length)
  free : ∀ (j : Nat) s f, n0[j]? = some s → (f ∈ s.free ↔ Fr cs.length (fun r k => r < K ∧ x ≤ k ∧ k ≤ cs.length) j f)
  edge : ∀ ed, ed ∈ E ↔ Ee cs (fun r k => r < K + 1 ∧ k < cs.length) (fun r k => r < K ∧ x ≤ k ∧ k ≤ cs.length) ed
theorem auto_fz {cs : List Int} {K x : Nat} (hx : x ≤ cs.length) : ∃ n0 E st, Fz cs K x n0 E st (auto cs K x) := by
  obtain ⟨m, hm⟩ : ∃ m, m = (2 * K + 1) * (cs.length + 1) := ⟨_, rfl⟩
  have hd : m / (cs.length + 1) = 2 * K + 1 := by rw [hm]; exact Nat.mul_div_cancel _ (Nat.succ_pos _)
  obtain ⟨E1, st1, h1⟩ := half_out1 cs (m := m) (K + 1) (by omega)
  obtain ⟨base, E, st, h⟩ := half_out2 h1 hx K (by omega)
  have hp := pl_lt (show 2 * K < 2 * K + 1 by omega) (Nat.le_refl cs.length)
  rw [← hm] at hp
  have h2 := h.led.anew (pl cs.length (2 * K) cs.length) hp (fun _ => true) id
  generalize hb : (fun p => if p = pl cs.length (2 * K) cs.length then (⟨true, (base p).arcs, id (base p).free⟩ : Lo) else base p) = b2 at h2
  refine ⟨(List.range m).map b2, E, st, ?_⟩
  have hl : ((List.range m).map b2).length = m := by simp
  have hat : ∀ (j : Nat) s, ((List.range m).map b2)[j]? = some s → s = b2 j := fun j s hs => by
    rw [List.getElem?_map] at hs
    obtain ⟨i, h3, rfl⟩ := Option.map_eq_some_iff.1 hs
    rw [List.getElem?_range (by have := (List.getElem?_eq_some_iff.1 h3).1; simpa using this)] at h3
    cases h3
    rfl
  refine ⟨?_, by rw [hl, hm], fun j s hs => ?_, fun j s hs => ?_, fun j s f hs => ?_, h.edge⟩
  · rw [hl]
    have e : auto cs K x = (out2 cs.length x (out1 cs m (K + 1)) K).modify (pl cs.length (2 * K) cs.length) fun s => ⟨true, s.arcs, id s.free⟩ := by
      unfold auto
      rw [← hm]
      rfl
    rw [e]
    refine h2.congr fun p hp => ?_
    have h3 := Sp.bs_at (n0 := (List.range m).map b2) (p := p) (by rw [hl]; exact hp)
    exact (hat p _ h3).symm
  · rw [hat j s hs, ← hb]
    dsimp only
    split <;> exact (h.bare j).2
  · rw [hat j s hs, ← hb]
    dsimp only
    split
    · rename_i e; simp [e]
    · rename_i e; simp [e, (h.bare j).1]
  · rw [hat j s hs, ← hb]
    dsimp only [id]
    split <;> exact h.free j f
end Go.Proofs.YthhfmcikfdagiaaDoor.Lv

/-
  Which texts of characters the automaton of a pattern takes, whose one star, if it has one, stands at its end; no program is named here.
-/
namespace Go.Proofs.YthhfmcikfdagiaaDoor.Wl
open Go.Lib
open Au (Arc Lo Star May has)
open Sp (rows lead Led bs Path MP InRow word Part Shape FitsN PreN star_end nxt)

/-- The bytes of characters. -/
def words (t : List Int) : List Nat := (Ut.enc t).map UInt8.toNat
theorem words_nil : words [] = [] := rfl
theorem words_snoc (t : List Int) (c : Int) : words (t ++ [c]) = words t ++ word c := by
  unfold words word
  rw [Ut.enc_snoc, List.map_append]
theorem word_ne (c : Int) : word c ≠ [] := fun h => Ut.rune_ne c (by unfold word at h; exact List.map_eq_nil_iff.1 h)
theorem takes_mp0 {n0 : List Lo} {E : List Sp.Edge} {st : Nat → Nat → Nat} {n : List Lo} (h : May n0) (hm : May n) (hl : Led n0.length (bs n0) E st n) (hE : ∀ ed ∈ E, ed.dst < n0.length) (w : List Nat) :
    Au.takes n (Au.first n) w = true ↔ ∃ k, MP n0 E w k ∧ (bs n0 k).fin = true := by
  rw [Sp.takes_path hm]
  constructor
  · rintro ⟨k, s, h1, h2, h3⟩
    rcases (Led.path_iff hl h).1 h1 with h4 | ⟨e, ed, u, x, he, hx1, hx2, rfl, _⟩
    · have hk := h4.lt h hE
      obtain ⟨A, h5, _⟩ := hl.main k hk
      rw [h2] at h5
      cases h5
      exact ⟨k, h4, h3⟩
    · rw [(hl.chain e ed x.length _ he hx1 (List.getElem?_eq_getElem hx2)).1] at h2
      cases h2
      cases h3
  · rintro ⟨k, h1, h2⟩
    obtain ⟨A, h5, _⟩ := hl.main k (h1.lt h hE)
    exact ⟨k, _, (Led.path_iff hl h).2 (.inl h1), h5, h2⟩
end Go.Proofs.YthhfmcikfdagiaaDoor.Wl

/-
  Which texts of characters lead where in a word's loose states: to a place by so many edits, if what is behind the exact characters is so near; no program is named here.
-/
namespace Go.Proofs.YthhfmcikfdagiaaDoor.Lv
open Go.Lib
open Au (Arc Lo Star May has)
open Sp (rows lead Led bs Path MP InRow word Part Shape FitsN PreN)
open Wl (words words_nil words_snoc word_ne)

theorem mp_star {n0 : List Lo} {E : List Sp.Edge} {w : List Nat} {k l : Nat} (h : MP n0 E w k) (hs : Star n0 k l) : MP n0 E w l := by
  cases h with
  | nil h => exact .nil (h.trans hs)
  | arc h1 h2 h3 h4 h5 h6 => exact .arc h1 h2 h3 h4 h5 (h6.trans hs)
  | edge h1 h2 h3 h4 => exact .edge h1 h2 h3 (h4.trans hs)
theorem allW_snoc {t : List Int} {c : Int} (h : Ut.allW (t ++ [c]) = true) : Ut.allW t = true ∧ Ut.whole c = true := by
  rw [Ut.allW_append, Bool.and_eq_true, Ut.allW_cons, Bool.and_eq_true] at h
  exact ⟨h.1, h.2.1⟩
theorem words_empty {t : List Int} (h : [] = words t) : t = [] := by
  rcases List.eq_nil_or_concat t with rfl | ⟨t', c, rfl⟩
  · rfl
  · rw [List.concat_eq_append, words_snoc] at h
    have h1 := congrArg List.length h
    have h2 := List.length_pos_iff.2 (word_ne c)
    simp at h1
    omega
/-- How near a text is to the word's beginning of i characters. -/
def Near (cs : List Int) (x : Nat) (t : List Int) (r i : Nat) : Prop :=
  (i < x ∧ r = 0 ∧ t = cs.take i) ∨ (x ≤ i ∧ x ≤ t.length ∧ t.take x = cs.take x ∧ dist (t.drop x) ((cs.take i).drop x) ≤ r)
theorem dist_app1 (u v : List Int) (c : Int) : dist (u ++ [c]) v ≤ dist u v + 1 := by
  have h1 := dist_way (u ++ [c]) u v
  have h2 : dist (u ++ [c]) u ≤ 1 := ed_dist (by
    have := (Ed.refl u).append (Ed.del c .nil)
    simpa using this)
  omega
theorem dist_app2 (u v : List Int) (c : Int) : dist u (v ++ [c]) ≤ dist u v + 1 := by
  rw [dist_symm u, dist_symm u]
  exact dist_app1 v u c
theorem dist_both (u v : List Int) (c d : Int) : dist (u ++ [c]) (v ++ [d]) ≤ dist u v + 1 := by
  have := dist_snoc u v c d
  split at this <;> omega
theorem dist_same (u v : List Int) (c : Int) : dist (u ++ [c]) (v ++ [c]) ≤ dist u v := by
  have := dist_snoc u v c c
  rw [if_pos rfl] at this
  omega
theorem take_drop_succ {cs : List Int} {x i : Nat} (hx : x ≤ i) (hi : i < cs.length) : (cs.take (i + 1)).drop x = (cs.take i).drop x ++ [cs[i]] := by
  rw [List.take_succ_eq_append_getElem hi, List.drop_append_of_le_length (by rw [List.length_take]; omega)]
/-- Characters and what they are near, one behind the other. -/
theorem near_up {cs : List Int} {x : Nat} {t : List Int} {r i : Nat} (hx : x ≤ i) (h : Near cs x t r i) : Near cs x t (r + 1) i := by
  rcases h with ⟨h, _⟩ | ⟨h1, h2, h3, h4⟩
  · omega
  · exact .inr ⟨h1, h2, h3, by omega⟩
theorem near_over {cs : List Int} {x : Nat} {t : List Int} {r i : Nat} (hx : x ≤ i) (h : Near cs x t r i) : Near cs x t (r + 1) (min (i + 1) cs.length) ∨ cs.length < i := by
  by_cases hi : i < cs.length
  · left
    rw [Nat.min_eq_left hi]
    rcases h with ⟨h, _⟩ | ⟨h1, h2, h3, h4⟩
    · omega
    · refine .inr ⟨by omega, h2, h3, ?_⟩
      rw [take_drop_succ hx hi]
      have := dist_app2 (t.drop x) ((cs.take i).drop x) cs[i]
      omega
  · by_cases he : cs.length = i
    · left
      rw [Nat.min_eq_right (by omega), he]
      exact near_up hx h
    · exact .inr (by omega)
theorem near_put {cs : List Int} {x : Nat} {t : List Int} {r i : Nat} (c : Int) (hx : x ≤ i) (h : Near cs x t r i) : Near cs x (t ++ [c]) (r + 1) i := by
  rcases h with ⟨h, _⟩ | ⟨h1, h2, h3, h4⟩
  · omega
  · refine .inr ⟨h1, by simp; omega, by rw [List.take_append_of_le_length h2]; exact h3, ?_⟩
    rw [List.drop_append_of_le_length h2]
    have := dist_app1 (t.drop x) ((cs.take i).drop x) c
    omega
theorem near_change {cs : List Int} {x : Nat} {t : List Int} {r i : Nat} (c : Int) (hx : x ≤ i) (hi : i ≤ cs.length) (h : Near cs x t r i) : Near cs x (t ++ [c]) (r + 1) (min (i + 1) cs.length) := by
  by_cases he : i < cs.length
  · rw [Nat.min_eq_left he]
    rcases h with ⟨h, _⟩ | ⟨h1, h2, h3, h4⟩
    · omega
    · refine .inr ⟨by omega, by simp; omega, by rw [List.take_append_of_le_length h2]; exact h3, ?_⟩
      rw [List.drop_append_of_le_length h2, take_drop_succ hx he]
      have := dist_both (t.drop x) ((cs.take i).drop x) c cs[i]
      omega
  · rw [Nat.min_eq_right (by omega), show cs.length = i by omega]
    exact near_put c hx h
theorem near_go {cs : List Int} {x : Nat} {t : List Int} {r i : Nat} (hi : i < cs.length) (h : Near cs x t r i) : Near cs x (t ++ [cs[i]]) r (i + 1) := by
  rcases h with ⟨h1, rfl, rfl⟩ | ⟨h1, h2, h3, h4⟩
  · have e : cs.take i ++ [cs[i]] = cs.take (i + 1) := (List.take_succ_eq_append_getElem hi).symm
    by_cases hx : i + 1 < x
    · exact .inl ⟨hx, rfl, e⟩
    · obtain rfl : x = i + 1 := by omega
      refine .inr ⟨Nat.le_refl _, by simp; omega, ?_, ?_⟩
      · rw [e, List.take_take, Nat.min_self]
      · rw [e]
        have := (dist_zero (a := (cs.take (i + 1)).drop (i + 1)) (b := (cs.take (i + 1)).drop (i + 1))).2 rfl
        omega
  · refine .inr ⟨by omega, by simp; omega, by rw [List.take_append_of_le_length h2]; exact h3, ?_⟩
    rw [List.drop_append_of_le_length h2, take_drop_succ h1 hi]
    have := dist_same (t.drop x) ((cs.take i).drop x) cs[i]
    omega

section
variable {cs : List Int} {K x : Nat} {n0 : List Lo} {E : List Sp.Edge} {st : Nat → Nat → Nat} {n : List Lo}
theorem Fz.may0 (F : Fz cs K x n0 E st n) : May n0 where
  pos := by rw [F.size]; exact Nat.mul_pos (by omega) (by omega)
  arc := fun i h a ha => by rw [F.arcs i _ (List.getElem?_eq_getElem h)] at ha; cases ha
  free := fun i h f hf => by
    obtain ⟨r, k, ⟨h1, h2, h3⟩, h4⟩ := (F.free i _ f (List.getElem?_eq_getElem h)).1 hf
    have p1 := pl_lt (n := cs.length) (show 2 * r + 1 < 2 * K + 1 by omega) h3
    have p2 := pl_lt (n := cs.length) (show 2 * r + 2 < 2 * K + 1 by omega) h3
    have p3 := pl_lt (n := cs.length) (show 2 * r + 2 < 2 * K + 1 by omega) (Nat.min_le_right (k + 1) cs.length)
    rw [F.size]
    rcases h4 with ⟨_, rfl⟩ | ⟨_, rfl | rfl⟩ <;> omega
theorem Fz.shape (F : Fz cs K x n0 E st n) : ∀ ed ∈ E, Shape ed.row := fun ed h => by
  rcases (F.edge ed).1 h with ⟨_, _, _, row, h1, rfl⟩ | ⟨_, _, _, row, h1, rfl⟩
  · exact Sp.rows_shape h1
  · exact Sp.rows_shape h1
theorem Fz.dst (F : Fz cs K x n0 E st n) : ∀ ed ∈ E, ed.src < n0.length ∧ ed.dst < n0.length := fun ed h => by
  have := F.led.src ed h
  exact ⟨this.1, this.2.1⟩
theorem Fz.may (F : Fz cs K x n0 E st n) : May n := F.led.may F.may0 fun ed h r hr => (F.shape ed h).rng r hr
theorem getD_eq {k : Nat} (h : k < cs.length) : cs.getD k 0 = cs[k] := by simp [List.getD, h]
/-- Only texts of characters lead to one of the first states. -/
theorem Fz.chars (F : Fz cs K x n0 E st n) (hw : ∀ c ∈ cs, Ut.whole c = true) {w : List Nat} {k : Nat} (h : MP n0 E w k) : ∃ t, Ut.allW t = true ∧ w = words t := by
  induction h with
  | nil _ => exact ⟨[], rfl, rfl⟩
  | arc _ h1 h2 _ _ _ _ => rw [F.arcs _ _ h1] at h2; cases h2
  | @edge w y l ed _ h2 h3 _ ih =>
    obtain ⟨t, h4, rfl⟩ := ih
    have : ∃ c, Ut.whole c = true ∧ y = word c := by
      rcases (F.edge ed).1 h2 with ⟨r, k, ⟨_, h5⟩, row, h1, rfl⟩ | ⟨_, _, _, row, h1, rfl⟩
      · exact ⟨_, hw _ (by rw [getD_eq h5]; exact List.getElem_mem h5), Sp.one_fit h1 h3⟩
      · exact Sp.full_fit h1 h3
    obtain ⟨c, h5, rfl⟩ := this
    refine ⟨t ++ [c], ?_, (words_snoc t c).symm⟩
    rw [Ut.allW_append, h4, Ut.allW_cons, h5]
    rfl
/-- What a state is behind a text that leads there. -/
def Q (cs : List Int) (K x : Nat) (t : List Int) (k : Nat) : Prop :=
  (∃ r i, r ≤ K ∧ i ≤ cs.length ∧ k = pl cs.length (2 * r) i ∧ Near cs x t r i) ∨
  (∃ r i, r < K ∧ x ≤ i ∧ i ≤ cs.length ∧ k = pl cs.length (2 * r + 1) i ∧ (Near cs x t r i ∨ ∃ t' c, t = t' ++ [c] ∧ Near cs x t' r i))
theorem Q.even {t : List Int} {r i : Nat} (hi : i ≤ cs.length) (h : Q cs K x t (pl cs.length (2 * r) i)) : r ≤ K ∧ Near cs x t r i := by
  rcases h with ⟨r', i', h1, h2, h3, h4⟩ | ⟨r', i', _, _, h2, h3, _⟩
  · obtain ⟨e, rfl⟩ := pl_inj hi h2 h3
    obtain rfl : r = r' := by omega
    exact ⟨h1, h4⟩
  · have := (pl_inj hi h2 h3).1
    omega
theorem Q.odd {t : List Int} {r i : Nat} (hi : i ≤ cs.length) (h : Q cs K x t (pl cs.length (2 * r + 1) i)) : r < K ∧ x ≤ i ∧ (Near cs x t r i ∨ ∃ t' c, t = t' ++ [c] ∧ Near cs x t' r i) := by
  rcases h with ⟨r', i', h1, h2, h3, h4⟩ | ⟨r', i', h0, h1, h2, h3, h4⟩
  · have := (pl_inj hi h2 h3).1
    omega
  · obtain ⟨e, rfl⟩ := pl_inj hi h2 h3
    obtain rfl : r = r' := by omega
    exact ⟨h0, h1, h4⟩
theorem Fz.q_star (F : Fz cs K x n0 E st n) {t : List Int} {j k : Nat} (h : Q cs K x t j) (hs : Star n0 j k) : Q cs K x t k := by
  induction hs with
  | refl => exact h
  | step _ h1 h2 ih =>
    obtain ⟨r, i, ⟨g1, g2, g3⟩, g4⟩ := (F.free _ _ _ h1).1 h2
    rcases g4 with ⟨rfl, rfl⟩ | ⟨rfl, g5⟩
    · exact .inr ⟨r, i, g1, g2, g3, by simp, .inl (Q.even g3 ih).2⟩
    · obtain ⟨_, _, g6⟩ := Q.odd g3 ih
      rcases g5 with rfl | rfl
      · refine .inl ⟨r + 1, i, by omega, g3, by simp; rfl, ?_⟩
        rcases g6 with g6 | ⟨t', c, rfl, g6⟩
        · exact near_up g2 g6
        · exact near_put c g2 g6
      · refine .inl ⟨r + 1, min (i + 1) cs.length, by omega, Nat.min_le_right _ _, by simp; rfl, ?_⟩
        rcases g6 with g6 | ⟨t', c, rfl, g6⟩
        · rcases near_over g2 g6 with g7 | g7
          · exact g7
          · omega
        · exact near_change c g2 g3 g6
/-- A text leads to what it is near alone. -/
theorem Fz.sound (F : Fz cs K x n0 E st n) (_hx : x ≤ cs.length) {w : List Nat} {k : Nat} (h : MP n0 E w k) : ∀ t, Ut.allW t = true → w = words t → Q cs K x t k := by
  induction h with
  | nil hs =>
    intro t _ ht
    obtain rfl := words_empty ht
    refine F.q_star (.inl ⟨0, 0, Nat.zero_le _, Nat.zero_le _, by simp [pl], ?_⟩) hs
    by_cases h : 0 < x
    · exact .inl ⟨h, rfl, rfl⟩
    · obtain rfl : x = 0 := by omega
      exact .inr ⟨Nat.le_refl _, Nat.le_refl _, rfl, by simp [dist]⟩
  | arc _ h1 h2 _ _ _ _ => rw [F.arcs _ _ h1] at h2; cases h2
  | @edge w y l ed _ h2 h3 h4 ih =>
    intro t ha ht
    have hsh := F.shape _ h2
    have hy : 1 ≤ y.length := by have := hsh.pos; have := h3.1; omega
    rcases List.eq_nil_or_concat t with rfl | ⟨t', c, rfl⟩
    · have h5 := congrArg List.length ht
      rw [words_nil, List.length_append, List.length_nil] at h5
      omega
    · rw [List.concat_eq_append] at ha ht ⊢
      rw [words_snoc] at ht
      obtain ⟨ha1, hc⟩ := allW_snoc ha
      obtain ⟨e1, e2⟩ := Sp.part_one (Sp.preN_part hsh h3.2 hy).1 (Sp.word_part hc) ht
      have hq := ih t' ha1 e1
      refine F.q_star ?_ h4
      rcases (F.edge ed).1 h2 with ⟨r, k, ⟨g1, g2⟩, row, g3, rfl⟩ | ⟨r, k, ⟨g1, g2, g4⟩, row, g3, rfl⟩
      · have hin := (Sp.rows_fit (cs.getD k 0) (cs.getD k 0) hc).1 ⟨row, g3, by rw [← e2]; exact h3⟩
        have hck : c = cs[k] := by rw [← getD_eq g2]; omega
        have hn := (Q.even (Nat.le_of_lt g2) hq).2
        rw [hck]
        exact .inl ⟨r, k + 1, by omega, g2, rfl, near_go g2 hn⟩
      · have hn := (Q.even g4 hq).2
        exact .inr ⟨r, k, g1, g2, g4, rfl, .inr ⟨t', c, rfl, hn⟩⟩
theorem Fz.raise (F : Fz cs K x n0 E st n) {w : List Nat} {r i : Nat} (hr : r < K) (hx : x ≤ i) (hi : i ≤ cs.length) (h : MP n0 E w (pl cs.length (2 * r + 1) i)) : MP n0 E w (pl cs.length (2 * r + 2) i) ∧ MP n0 E w (pl cs.length (2 * r + 2) (min (i + 1) cs.length)) := by
  have hl := pl_lt (n := cs.length) (show 2 * r + 1 < 2 * K + 1 by omega) hi
  rw [← F.size] at hl
  have h1 := Sp.bs_at hl
  have h2 : ∀ f, Fr cs.length (fun r k => r < K ∧ x ≤ k ∧ k ≤ cs.length) (pl cs.length (2 * r + 1) i) f → f ∈ (bs n0 (pl cs.length (2 * r + 1) i)).free := fun f hf => (F.free _ _ f h1).2 hf
  have s1 : Star n0 (pl cs.length (2 * r + 1) i) (pl cs.length (2 * r + 2) i) := by
    have := Star.step (.refl) h1 (h2 (pl cs.length (2 * r + 2) i : Nat) ⟨r, i, ⟨hr, hx, hi⟩, .inr ⟨rfl, .inl rfl⟩⟩)
    simpa using this
  have s2 : Star n0 (pl cs.length (2 * r + 1) i) (pl cs.length (2 * r + 2) (min (i + 1) cs.length)) := by
    have := Star.step (.refl) h1 (h2 (pl cs.length (2 * r + 2) (min (i + 1) cs.length) : Nat) ⟨r, i, ⟨hr, hx, hi⟩, .inr ⟨rfl, .inr rfl⟩⟩)
    simpa using this
  exact ⟨mp_star h s1, mp_star h s2⟩
theorem Fz.midst (F : Fz cs K x n0 E st n) {w : List Nat} {r i : Nat} (hr : r < K) (hx : x ≤ i) (hi : i ≤ cs.length) (h : MP n0 E w (pl cs.length (2 * r) i)) : MP n0 E w (pl cs.length (2 * r + 1) i) := by
  have hl := pl_lt (n := cs.length) (show 2 * r < 2 * K + 1 by omega) hi
  rw [← F.size] at hl
  have h1 := Sp.bs_at hl
  have h2 := (F.free _ _ (pl cs.length (2 * r + 1) i : Nat) h1).2 ⟨r, i, ⟨hr, hx, hi⟩, .inl ⟨rfl, rfl⟩⟩
  have := Star.step (.refl) h1 h2
  exact mp_star h (by simpa using this)
theorem Fz.go (F : Fz cs K x n0 E st n) (hw : ∀ c ∈ cs, Ut.whole c = true) {t : List Int} {r i : Nat} (hr : r ≤ K) (hi : i < cs.length) (h : MP n0 E (words t) (pl cs.length (2 * r) i)) : MP n0 E (words (t ++ [cs[i]])) (pl cs.length (2 * r) (i + 1)) := by
  obtain ⟨row, h1, h2⟩ := (Sp.rows_fit cs[i] cs[i] (hw _ (List.getElem_mem hi))).2 ⟨Int.le_refl _, Int.le_refl _⟩
  rw [words_snoc]
  exact .edge (ed := ⟨pl cs.length (2 * r) i, row, pl cs.length (2 * r) (i + 1)⟩) h ((F.edge _).2 (.inl ⟨r, i, ⟨by omega, hi⟩, row, by rw [getD_eq hi]; exact h1, rfl⟩)) h2 .refl
theorem Fz.put (F : Fz cs K x n0 E st n) {t : List Int} {c : Int} (hc : Ut.whole c = true) {r i : Nat} (hr : r < K) (hx : x ≤ i) (hi : i ≤ cs.length) (h : MP n0 E (words t) (pl cs.length (2 * r) i)) : MP n0 E (words (t ++ [c])) (pl cs.length (2 * r + 1) i) := by
  have hb : 0 ≤ c ∧ c ≤ 1114111 := by
    have := Ut.whole_iff.1 hc
    omega
  obtain ⟨row, h1, h2⟩ := (Sp.rows_fit 0 1114111 hc).2 hb
  rw [words_snoc]
  exact .edge (ed := ⟨pl cs.length (2 * r) i, row, pl cs.length (2 * r + 1) i⟩) h ((F.edge _).2 (.inr ⟨r, i, ⟨hr, hx, hi⟩, row, h1, rfl⟩)) h2 .refl
/-- The exact characters. -/
theorem Fz.exact_ (F : Fz cs K x n0 E st n) (hw : ∀ c ∈ cs, Ut.whole c = true) : ∀ i, i ≤ cs.length → MP n0 E (words (cs.take i)) (pl cs.length (2 * 0) i)
  | 0, _ => .nil (by simp [pl]; exact .refl)
  | i + 1, h => by
    rw [List.take_succ_eq_append_getElem (show i < cs.length by omega)]
    exact F.go hw (Nat.zero_le _) (by omega) (F.exact_ hw i (by omega))
/-- A text leads to all that it is near. -/
theorem Fz.full (F : Fz cs K x n0 E st n) (hw : ∀ c ∈ cs, Ut.whole c = true) : ∀ (m : Nat) (t : List Int) (r i : Nat), t.length + i = m → Ut.allW t = true → r ≤ K → i ≤ cs.length → Near cs x t r i → MP n0 E (words t) (pl cs.length (2 * r) i) := by
  intro m
  induction m using Nat.strongRecOn with
  | _ m ih =>
    intro t r i hm ha hr hi hn
    rcases hn with ⟨h1, rfl, rfl⟩ | ⟨h1, h2, h3, h4⟩
    · exact F.exact_ hw i hi
    · -- by the last characters of both
      rcases List.eq_nil_or_concat (t.drop x) with hu | ⟨u, c, hu⟩
      · have htx : t = cs.take x := by
          have := List.take_append_drop x t
          rw [hu, List.append_nil, h3] at this
          exact this.symm
        by_cases hix : i = x
        · subst hix
          clear ih h4 hm
          induction r with
          | zero => rw [htx]; exact F.exact_ hw i hi
          | succ r ihr => exact (F.raise (by omega) h1 hi (F.midst (by omega) h1 hi (ihr (by omega)))).1
        · obtain ⟨i', rfl⟩ : ∃ j, i = j + 1 := ⟨i - 1, by omega⟩
          rw [hu, dist_nil, take_drop_succ (by omega) (by omega), List.length_append, List.length_singleton] at h4
          obtain ⟨r', rfl⟩ : ∃ j, r = j + 1 := ⟨r - 1, by omega⟩
          have := ih (t.length + i') (by omega) t r' i' rfl ha (by omega) (by omega) (.inr ⟨by omega, h2, h3, by rw [hu, dist_nil]; omega⟩)
          have h5 := (F.raise (show r' < K by omega) (show x ≤ i' by omega) (by omega) (F.midst (by omega) (by omega) (by omega) this)).2
          rw [Nat.min_eq_left (by omega)] at h5
          exact h5
      · rw [List.concat_eq_append] at hu
        obtain ⟨t', e, hl, hd⟩ : ∃ t', t = t' ++ [c] ∧ x ≤ t'.length ∧ t'.drop x = u := by
          refine ⟨t.take x ++ u, ?_, ?_, ?_⟩
          · rw [List.append_assoc, ← hu, List.take_append_drop]
          · rw [List.length_append, List.length_take]; omega
          · rw [List.drop_append_of_le_length (by rw [List.length_take]; omega), List.drop_of_length_le (by rw [List.length_take]; omega), List.nil_append]
        subst e
        obtain ⟨ha1, hc⟩ := allW_snoc ha
        have h3' : t'.take x = cs.take x := by rw [← h3, List.take_append_of_le_length hl]
        rw [hu] at h4
        rw [List.length_append, List.length_singleton] at hm
        by_cases hix : i = x
        · subst hix
          have hnil : (cs.take i).drop i = [] := List.drop_of_length_le (by rw [List.length_take]; omega)
          rw [hnil, dist_nil', List.length_append, List.length_singleton] at h4
          obtain ⟨r', rfl⟩ : ∃ j, r = j + 1 := ⟨r - 1, by omega⟩
          have := ih (t'.length + i) (by omega) t' r' i rfl ha1 (by omega) hi (.inr ⟨h1, hl, h3', by rw [hd, hnil, dist_nil']; omega⟩)
          exact (F.raise (by omega) h1 hi (F.put hc (by omega) h1 hi this)).1
        · obtain ⟨i', rfl⟩ : ∃ j, i = j + 1 := ⟨i - 1, by omega⟩
          have hv := take_drop_succ (cs := cs) (show x ≤ i' by omega) (show i' < cs.length by omega)
          rw [hv, dist_snoc] at h4
          generalize hvv : (cs.take i').drop x = v at *
          have hmin : (dist u v + if c = cs[i'] then 0 else 1) ≤ r ∨ dist u (v ++ [cs[i']]) + 1 ≤ r ∨ dist (u ++ [c]) v + 1 ≤ r := by omega
          rcases hmin with h5 | h5 | h5
          · by_cases hcc : c = cs[i']
            · rw [if_pos hcc] at h5
              have := ih (t'.length + i') (by omega) t' r i' rfl ha1 hr (by omega) (.inr ⟨by omega, hl, h3', by rw [hd, hvv]; omega⟩)
              have h6 := F.go hw hr (show i' < cs.length by omega) this
              rw [← hcc] at h6
              exact h6
            · rw [if_neg hcc] at h5
              obtain ⟨r', rfl⟩ : ∃ j, r = j + 1 := ⟨r - 1, by omega⟩
              have := ih (t'.length + i') (by omega) t' r' i' rfl ha1 (by omega) (by omega) (.inr ⟨by omega, hl, h3', by rw [hd, hvv]; omega⟩)
              have h6 := (F.raise (show r' < K by omega) (show x ≤ i' by omega) (by omega) (F.put hc (by omega) (by omega) (by omega) this)).2
              rw [Nat.min_eq_left (by omega)] at h6
              exact h6
          · obtain ⟨r', rfl⟩ : ∃ j, r = j + 1 := ⟨r - 1, by omega⟩
            have := ih (t'.length + (i' + 1)) (by omega) t' r' (i' + 1) rfl ha1 (by omega) hi (.inr ⟨h1, hl, h3', by rw [hd, hv]; omega⟩)
            exact (F.raise (by omega) h1 hi (F.put hc (by omega) h1 hi this)).1
          · obtain ⟨r', rfl⟩ : ∃ j, r = j + 1 := ⟨r - 1, by omega⟩
            have := ih (t'.length + 1 + i') (by omega) (t' ++ [c]) r' i' (by simp) ha (by omega) (by omega) (.inr ⟨by omega, h2, h3, by rw [hu, hvv]; omega⟩)
            have h6 := (F.raise (show r' < K by omega) (show x ≤ i' by omega) (by omega) (F.midst (by omega) (by omega) (by omega) this)).2
            rw [Nat.min_eq_left (by omega)] at h6
            exact h6
/-- Where a text of characters leads. -/
theorem Fz.even_iff (F : Fz cs K x n0 E st n) (hw : ∀ c ∈ cs, Ut.whole c = true) (hx : x ≤ cs.length) {t : List Int} (ht : Ut.allW t = true) {r i : Nat} (hi : i ≤ cs.length) : MP n0 E (words t) (pl cs.length (2 * r) i) ↔ r ≤ K ∧ Near cs x t r i := by
  constructor
  · intro h
    exact Q.even hi (F.sound hx h t ht rfl)
  · rintro ⟨h1, h2⟩
    exact F.full hw _ t r i rfl ht h1 hi h2
/-- What the states of a word take. -/
def within (cs : List Int) (K x : Nat) (t : List Int) : Prop := x ≤ t.length ∧ t.take x = cs.take x ∧ dist (t.drop x) (cs.drop x) ≤ K
theorem Fz.takes (F : Fz cs K x n0 E st n) (hw : ∀ c ∈ cs, Ut.whole c = true) (hx : x ≤ cs.length) {t : List Int} (ht : Ut.allW t = true) : Au.takes n (Au.first n) (words t) = true ↔ within cs K x t := by
  rw [Wl.takes_mp0 F.may0 F.may F.led (fun ed h => (F.dst ed h).2)]
  have hl := pl_lt (n := cs.length) (show 2 * K < 2 * K + 1 by omega) (Nat.le_refl _)
  rw [← F.size] at hl
  have h1 : (∃ k, MP n0 E (words t) k ∧ (bs n0 k).fin = true) ↔ MP n0 E (words t) (pl cs.length (2 * K) cs.length) := by
    constructor
    · rintro ⟨k, h1, h2⟩
      have hk := h1.lt F.may0 (fun ed h => (F.dst ed h).2)
      rw [← (F.fin k _ (Sp.bs_at hk)).1 h2]
      exact h1
    · intro h
      exact ⟨_, h, (F.fin _ _ (Sp.bs_at hl)).2 rfl⟩
  rw [h1, F.even_iff hw hx ht (Nat.le_refl _)]
  unfold Near within
  rw [List.take_length]
  constructor
  · rintro ⟨_, ⟨h, _⟩ | ⟨_, h⟩⟩
    · omega
    · exact h
  · intro h
    exact ⟨Nat.le_refl _, .inr ⟨hx, h⟩⟩
end
end Go.Proofs.YthhfmcikfdagiaaDoor.Lv
