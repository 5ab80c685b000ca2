/-
  Characters as bytes and back, plainly: what is written is read, what is read is written, and the order of both; no program is named here.
-/
import Derived.Lib.ValidLaws
import Derived.Lib.MapLaws
import Derived.Lib.RuneCount
import Derived.Lib.Hide
namespace Go.Proofs.Ytmpjhbbcfnffhaa.Ut
open Go.Lib

/-- A number is a character. -/
def whole (c : Int) : Bool := decide ((0 ≤ c ∧ c < 55296) ∨ (57343 < c ∧ c < 1114112))
theorem whole_iff {c : Int} : whole c = true ↔ ((0 ≤ c ∧ c < 55296) ∨ (57343 < c ∧ c < 1114112)) := decide_eq_true_iff
def allW (l : List Int) : Bool := l.all whole
def enc (l : List Int) : List UInt8 := l.flatMap encodeRune
def decGo : Nat → List UInt8 → List Int
  | 0, _ => []
  | n + 1, l => if l = [] then [] else ((decodeL l).1 : Int) :: decGo n (l.drop (decodeL l).2)
def dec (l : List UInt8) : List Int := decGo l.length l
/-- No character begins the bytes. -/
def Bad (l : List UInt8) : Prop := (decodeL l).1 = 65533 ∧ (decodeL l).2 = 1
instance (l : List UInt8) : Decidable (Bad l) := by unfold Bad; infer_instance

theorem enc_nil : enc [] = [] := rfl
theorem enc_cons (c : Int) (l : List Int) : enc (c :: l) = encodeRune c ++ enc l := rfl
theorem enc_append (a b : List Int) : enc (a ++ b) = enc a ++ enc b := by simp [enc]
theorem enc_snoc (a : List Int) (c : Int) : enc (a ++ [c]) = enc a ++ encodeRune c := by rw [enc_append]; simp [enc]
theorem allW_append (a b : List Int) : allW (a ++ b) = (allW a && allW b) := by simp [allW]
theorem allW_cons (c : Int) (l : List Int) : allW (c :: l) = (whole c && allW l) := rfl
theorem allW_iff {l : List Int} : allW l = true ↔ ∀ c ∈ l, whole c = true := List.all_eq_true
theorem decGo_nil : ∀ n, decGo n [] = []
  | 0 => rfl
  | _ + 1 => by simp [decGo]
theorem decGo_fuel : ∀ (n m : Nat) (l : List UInt8), l.length ≤ n → l.length ≤ m → decGo n l = decGo m l
  | 0, m, l, hn, _ => by
    have : l = [] := List.eq_nil_of_length_eq_zero (by omega)
    subst this
    rw [decGo_nil, decGo_nil]
  | n + 1, 0, l, _, hm => by
    have : l = [] := List.eq_nil_of_length_eq_zero (by omega)
    subst this
    rw [decGo_nil, decGo_nil]
  | n + 1, m + 1, l, hn, hm => by
    unfold decGo
    by_cases hne : l = []
    · simp [hne]
    · have hw := decodeL_width l
      have hl : 0 < l.length := List.length_pos_iff.2 hne
      rw [if_neg hne, if_neg hne, decGo_fuel n m (l.drop (decodeL l).2) (by rw [List.length_drop]; omega) (by rw [List.length_drop]; omega)]
theorem dec_nil : dec [] = [] := rfl
theorem dec_step (l : List UInt8) (hne : l ≠ []) : dec l = ((decodeL l).1 : Int) :: dec (l.drop (decodeL l).2) := by
  have hl : 0 < l.length := List.length_pos_iff.2 hne
  have hw := decodeL_width l
  obtain ⟨n, hn⟩ : ∃ n, l.length = n + 1 := ⟨l.length - 1, by omega⟩
  unfold dec
  rw [hn]
  show (if l = [] then [] else _) = _
  rw [if_neg hne, decGo_fuel n (l.drop (decodeL l).2).length _ (by rw [List.length_drop]; omega) (Nat.le_refl _)]
theorem dec_length : ∀ (n : Nat) (l : List UInt8), (decGo n l).length ≤ n
  | 0, _ => by simp [decGo]
  | n + 1, l => by
    unfold decGo
    split
    · simp
    · rw [List.length_cons]
      have := dec_length n (l.drop (decodeL l).2)
      omega

/-- The bytes of a character, by its size. -/
theorem run_cases (c : Int) (h : whole c = true) :
    (0 ≤ c ∧ c ≤ 127 ∧ encodeRuneZ c = [c]) ∨ (128 ≤ c ∧ c ≤ 2047 ∧ encodeRuneZ c = [192 + c / 64, 128 + c % 64]) ∨
    (((2048 ≤ c ∧ c < 55296) ∨ (57343 < c ∧ c ≤ 65535)) ∧ encodeRuneZ c = [224 + c / 4096, 128 + c / 64 % 64, 128 + c % 64]) ∨
    (65536 ≤ c ∧ c ≤ 1114111 ∧ encodeRuneZ c = [240 + c / 262144, 128 + c / 4096 % 64, 128 + c / 64 % 64, 128 + c % 64]) := by
  rw [whole_iff] at h
  by_cases h1 : c ≤ 127
  · exact .inl ⟨by omega, h1, encodeRuneZ_one (by omega) h1⟩
  by_cases h2 : c ≤ 2047
  · exact .inr (.inl ⟨by omega, h2, encodeRuneZ_two (by omega) h2⟩)
  by_cases h3 : c ≤ 65535
  · exact .inr (.inr (.inl ⟨by omega, encodeRuneZ_three (by omega)⟩))
  · exact .inr (.inr (.inr ⟨by omega, by omega, encodeRuneZ_four (by omega) (by omega)⟩))
theorem byteZ (x : Int) (_h0 : 0 ≤ x) (h1 : x < 256) : (x.toNat.toUInt8).toNat = x.toNat := by
  simp
  omega
theorem byteI (x : Int) (h0 : 0 ≤ x) (h1 : x < 256) : ((x.toNat.toUInt8).toNat : Int) = x := by
  rw [byteZ x h0 h1]; omega
theorem rune_length (c : Int) : 1 ≤ (encodeRune c).length ∧ (encodeRune c).length ≤ 4 := by
  unfold encodeRune encodeRuneZ
  repeat' split
  all_goals simp
theorem rune_ne (c : Int) : encodeRune c ≠ [] := fun h => by have := (rune_length c).1; rw [h] at this; simp at this
theorem enc_length (l : List Int) : l.length ≤ (enc l).length ∧ (enc l).length ≤ 4 * l.length := by
  induction l with
  | nil => simp [enc]
  | cons c t ih =>
    have := rune_length c
    rw [enc_cons, List.length_append, List.length_cons]
    omega

/-- What is written of a character is read as it, whatever stands behind. -/
theorem decode_encode (c : Int) (h : whole c = true) (r : List UInt8) : decodeL (encodeRune c ++ r) = (c.toNat, (encodeRune c).length) ∧ ¬ Bad (encodeRune c ++ r) := by
  have key : decodeL (encodeRune c ++ r) = (c.toNat, (encodeRune c).length) := by
    rw [decodeL_N]
    unfold encodeRune
    rcases run_cases c h with ⟨h1, h2, e⟩ | ⟨h1, h2, e⟩ | ⟨h1, e⟩ | ⟨h1, h2, e⟩
    · rw [e]
      simp only [List.map_cons, List.map_nil, List.cons_append, List.nil_append, List.length_cons, List.length_nil, List.getD_cons_zero]
      rw [byteZ c (by omega) (by omega)]
      unfold decodeN
      rw [if_pos (by omega)]
    · rw [e]
      simp only [List.map_cons, List.map_nil, List.cons_append, List.nil_append, List.length_cons, List.length_nil, List.getD_cons_zero, List.getD_cons_succ]
      rw [byteZ (192 + c / 64) (by omega) (by omega), byteZ (128 + c % 64) (by omega) (by omega)]
      unfold decodeN
      rw [if_neg (by omega), if_pos (by omega), if_pos (by omega)]
      refine Prod.ext ?_ rfl
      show _ = c.toNat
      omega
    · rw [e]
      simp only [List.map_cons, List.map_nil, List.cons_append, List.nil_append, List.length_cons, List.length_nil, List.getD_cons_zero, List.getD_cons_succ]
      rw [byteZ (224 + c / 4096) (by omega) (by omega), byteZ (128 + c / 64 % 64) (by omega) (by omega), byteZ (128 + c % 64) (by omega) (by omega)]
      unfold decodeN
      rw [if_neg (by omega), if_neg (by omega), if_pos (by omega), if_pos (by omega)]
      refine Prod.ext ?_ rfl
      show _ = c.toNat
      omega
    · rw [e]
      simp only [List.map_cons, List.map_nil, List.cons_append, List.nil_append, List.length_cons, List.length_nil, List.getD_cons_zero, List.getD_cons_succ]
      rw [byteZ (240 + c / 262144) (by omega) (by omega), byteZ (128 + c / 4096 % 64) (by omega) (by omega), byteZ (128 + c / 64 % 64) (by omega) (by omega), byteZ (128 + c % 64) (by omega) (by omega)]
      unfold decodeN
      rw [if_neg (by omega), if_neg (by omega), if_neg (by omega), if_pos (by omega), if_pos (by omega)]
      refine Prod.ext ?_ rfl
      show _ = c.toNat
      omega
  refine ⟨key, ?_⟩
  unfold Bad
  rw [key]
  rintro ⟨h1, h2⟩
  dsimp only at h1 h2
  have hc : c = 65533 := by rw [whole_iff] at h; omega
  subst hc
  have : (encodeRune 65533).length = 3 := by decide +kernel
  omega

/-- What is read is a character. -/
theorem decode_whole (l : List UInt8) : whole ((decodeL l).1 : Int) = true := by
  rw [whole_iff]
  rw [decodeL_N]
  have k0 := (l.getD 0 0).toNat_lt
  have k1 := (l.getD 1 0).toNat_lt
  have k2 := (l.getD 2 0).toNat_lt
  have k3 := (l.getD 3 0).toNat_lt
  rcases decodeN_shape l.length (l.getD 0 0).toNat (l.getD 1 0).toNat (l.getD 2 0).toNat (l.getD 3 0).toNat with ⟨c, e⟩ | ⟨c1, c2, c3, cv, e⟩ | ⟨c1, c2, c3, c4, cv, cs, e⟩ | ⟨c1, c2, c3, c4, c5, cv, cw, e⟩ | e
  all_goals (rw [e]; dsimp only; omega)

theorem validD_good (l : List UInt8) (hne : l ≠ []) (hb : ¬ Bad l) : validD l = validD (l.drop (decodeL l).2) := by rw [validD_step l hne]; exact if_neg hb
theorem validD_bad (l : List UInt8) (hne : l ≠ []) (hb : Bad l) : validD l = false := by rw [validD_step l hne]; exact if_pos hb

/-- Characters that were written are read back. -/
theorem dec_enc (l : List Int) (h : allW l = true) : validD (enc l) = true ∧ dec (enc l) = l := by
  induction l with
  | nil => exact ⟨rfl, rfl⟩
  | cons c t ih =>
    rw [allW_cons, Bool.and_eq_true] at h
    obtain ⟨h1, h2⟩ := decode_encode c h.1 (enc t)
    have hne : encodeRune c ++ enc t ≠ [] := by simp [rune_ne]
    obtain ⟨i1, i2⟩ := ih h.2
    rw [enc_cons, validD_good _ hne h2, dec_step _ hne, h1]
    dsimp only
    rw [List.drop_left, i1, i2]
    refine ⟨rfl, ?_⟩
    have := whole_iff.1 h.1
    rw [show ((c.toNat : Nat) : Int) = c from by omega]
/-- Bytes that are read are just what they are written in. -/
theorem enc_dec : ∀ (n : Nat) (l : List UInt8), l.length ≤ n → validD l = true → enc (dec l) = l ∧ allW (dec l) = true := by
  intro n
  induction n with
  | zero =>
    intro l hl _
    have : l = [] := List.eq_nil_of_length_eq_zero (by omega)
    subst this
    exact ⟨rfl, rfl⟩
  | succ n ih =>
    intro l hl hv
    by_cases hne : l = []
    · subst hne; exact ⟨rfl, rfl⟩
    · by_cases hb : Bad l
      · rw [validD_bad l hne hb] at hv; cases hv
      · have hw := decodeL_width l
        have hl0 : 0 < l.length := List.length_pos_iff.2 hne
        rw [validD_good l hne hb] at hv
        obtain ⟨i1, i2⟩ := ih (l.drop (decodeL l).2) (by rw [List.length_drop]; omega) hv
        rw [dec_step l hne, enc_cons, allW_cons, i1, i2, encode_decode l hne hb, List.take_append_drop, decode_whole l]
        exact ⟨rfl, rfl⟩

/-- The number that bytes of a character tell. -/
def guess (l : List UInt8) : Int :=
  match l with
  | [a] => a.toNat
  | [a, b] => 64 * ((a.toNat : Int) - 192) + b.toNat - 128
  | [a, b, c] => 64 * (64 * ((a.toNat : Int) - 224) + b.toNat - 128) + c.toNat - 128
  | [a, b, c, d] => 64 * (64 * (64 * ((a.toNat : Int) - 240) + b.toNat - 128) + c.toNat - 128) + d.toNat - 128
  | _ => 0
theorem guess_enc (c : Int) (h : whole c = true) : guess (encodeRune c) = c := by
  unfold encodeRune
  rcases run_cases c h with ⟨h1, h2, e⟩ | ⟨h1, h2, e⟩ | ⟨h1, e⟩ | ⟨h1, h2, e⟩
  · rw [e]
    simp only [List.map_cons, List.map_nil, guess]
    rw [byteI c (by omega) (by omega)]
  · rw [e]
    simp only [List.map_cons, List.map_nil, guess]
    rw [byteI (192 + c / 64) (by omega) (by omega), byteI (128 + c % 64) (by omega) (by omega)]
    omega
  · rw [e]
    simp only [List.map_cons, List.map_nil, guess]
    rw [byteI (224 + c / 4096) (by omega) (by omega), byteI (128 + c / 64 % 64) (by omega) (by omega), byteI (128 + c % 64) (by omega) (by omega)]
    omega
  · rw [e]
    simp only [List.map_cons, List.map_nil, guess]
    rw [byteI (240 + c / 262144) (by omega) (by omega), byteI (128 + c / 4096 % 64) (by omega) (by omega), byteI (128 + c / 64 % 64) (by omega) (by omega), byteI (128 + c % 64) (by omega) (by omega)]
    omega
theorem guess_bound (l : List UInt8) : -100000000 ≤ guess l ∧ guess l ≤ 100000000 := by
  unfold guess
  split
  · rename_i a; have := a.toNat_lt; omega
  · rename_i a b; have := a.toNat_lt; have := b.toNat_lt; omega
  · rename_i a b c; have := a.toNat_lt; have := b.toNat_lt; have := c.toNat_lt; omega
  · rename_i a b c d; have := a.toNat_lt; have := b.toNat_lt; have := c.toNat_lt; have := d.toNat_lt; omega
  · omega
/-- A trial with as many bytes: are they a character's? -/
def hit (l : List UInt8) (n : Nat) : Bool := whole (guess (l.take n)) && decide (encodeRune (guess (l.take n)) = l.take n)
theorem hit_iff (l : List UInt8) (n : Nat) (hn : n ≤ l.length) : hit l n = true ↔ l ≠ [] ∧ ¬ Bad l ∧ n = (decodeL l).2 := by
  unfold hit
  rw [Bool.and_eq_true, decide_eq_true_iff]
  constructor
  · rintro ⟨h1, h2⟩
    have e : l = encodeRune (guess (l.take n)) ++ l.drop n := by rw [h2, List.take_append_drop]
    obtain ⟨d1, d2⟩ := decode_encode _ h1 (l.drop n)
    rw [← e] at d1 d2
    refine ⟨fun h => ?_, d2, ?_⟩
    · subst h
      rw [List.take_nil] at h2
      exact absurd h2 (rune_ne _)
    · rw [d1]
      dsimp only
      rw [h2, List.length_take]
      omega
  · rintro ⟨hne, hb, rfl⟩
    have h1 := encode_decode l hne hb
    have h2 := decode_whole l
    have h3 := guess_enc _ h2
    rw [h1] at h3
    rw [h3]
    exact ⟨h2, h1⟩
theorem hit_guess (l : List UInt8) (hne : l ≠ []) (hb : ¬ Bad l) : guess (l.take (decodeL l).2) = ((decodeL l).1 : Int) := by
  rw [← encode_decode l hne hb]
  exact guess_enc _ (decode_whole l)
theorem width_four (l : List UInt8) : (decodeL l).2 ≤ 4 := by
  rw [decodeL_N]
  rcases decodeN_shape l.length (l.getD 0 0).toNat (l.getD 1 0).toNat (l.getD 2 0).toNat (l.getD 3 0).toNat with ⟨c, e⟩ | ⟨c1, c2, c3, cv, e⟩ | ⟨c1, c2, c3, c4, cv, cs, e⟩ | ⟨c1, c2, c3, c4, c5, cv, cw, e⟩ | e
  all_goals (rw [e]; dsimp only; omega)
end Go.Proofs.Ytmpjhbbcfnffhaa.Ut
