/-
  Texts of numbers, plainly: the parts about the point, the digits, the answer; as the program reads them, and as the given package does: the same.
-/
import Derived.Test.YthlbeehlcgnggaaRh
import Derived.Lib.Bytealg
namespace Go.Proofs.Ythlbeehlcgnggaa
namespace Rf

/-- What stands ahead of the first point, behind it, and whether there is one. -/
def cut46 : List UInt8 → List UInt8 × List UInt8 × Bool
  | [] => ([], [], false)
  | c :: r => if c = 46 then ([], r, true) else (c :: (cut46 r).1, (cut46 r).2.1, (cut46 r).2.2)
def isD (c : UInt8) : Bool := decide (48 ≤ c.toNat ∧ c.toNat ≤ 57)
/-- The number of digits. -/
def dec (x : Nat) : List UInt8 → Nat
  | [] => x
  | c :: r => dec (10 * x + (c.toNat - 48)) r
def areD (most : Nat) (l : List UInt8) : Bool := decide (0 < l.length ∧ l.length ≤ most) && l.all isD
/-- The two whole numbers whose quotient a text tells. -/
def size (l : List UInt8) : Option (Nat × Nat) :=
  if (areD 12 (cut46 l).1 && (!(cut46 l).2.2 || areD 3 (cut46 l).2.1)) = true then some (dec 0 ((cut46 l).1 ++ (cut46 l).2.1), 10 ^ (cut46 l).2.1.length) else .none
/-- The number of a text with no sign. -/
def number (l : List UInt8) : Option Nat := if l = [105, 110, 102] then some 9218868437227405312 else (size l).map fun p => ratio p.1 p.2
/-- The number of a text. -/
def parse (l : List UInt8) : Option Nat :=
  if l = [110, 97, 110] then some 9221120237041090560 else
  if l.head? = some 45 then (number l.tail).map (· + 9223372036854775808) else number l

/-- How many digits stand ahead, up to so many. -/
def lead : Nat → List UInt8 → Nat
  | 0, _ => 0
  | _, [] => 0
  | m + 1, c :: r => if isD c = true then lead m r + 1 else 0
/-- The same two numbers, as the given package finds them. -/
def refSize (l : List UInt8) : Option (Nat × Nat) :=
  if lead 12 l = 0 then .none else
  match l.drop (lead 12 l) with
  | [] => some (dec 0 (l.take (lead 12 l)), 1)
  | c :: t => if c ≠ 46 ∨ lead 3 t = 0 ∨ lead 3 t ≠ t.length then .none else some (dec 0 (l.take (lead 12 l)) * 10 ^ lead 3 t + dec 0 t, 10 ^ lead 3 t)

theorem lead_le (m : Nat) (l : List UInt8) : lead m l ≤ m ∧ lead m l ≤ l.length := by
  induction l generalizing m with
  | nil => cases m <;> simp [lead]
  | cons c r ih =>
    cases m with
    | zero => simp [lead]
    | succ m =>
      have := ih m
      simp only [lead]
      split <;> simp <;> omega
theorem lead_digits (m : Nat) (l : List UInt8) : (l.take (lead m l)).all isD = true := by
  induction l generalizing m with
  | nil => cases m <;> simp [lead]
  | cons c r ih =>
    cases m with
    | zero => simp [lead]
    | succ m =>
      simp only [lead]
      split
      · rename_i h
        rw [List.take_succ_cons, List.all_cons, h, ih m]
        rfl
      · simp
theorem lead_stop (m : Nat) (l : List UInt8) (c : UInt8) (t : List UInt8) (h : l.drop (lead m l) = c :: t) : lead m l = m ∨ isD c = false := by
  induction l generalizing m with
  | nil => cases m <;> simp [lead] at h
  | cons b r ih =>
    cases m with
    | zero => left; simp [lead]
    | succ m =>
      simp only [lead] at h ⊢
      split
      · rename_i hb
        rw [if_pos hb, List.drop_succ_cons] at h
        rcases ih m h with h1 | h1
        · left; omega
        · right; exact h1
      · rename_i hb
        rw [if_neg hb] at h
        simp only [List.drop_zero, List.cons.injEq] at h
        right
        rw [← h.1]
        simpa using hb
theorem lead_all (m : Nat) (l : List UInt8) (h : l.all isD = true) (hm : l.length ≤ m) : lead m l = l.length := by
  induction l generalizing m with
  | nil => cases m <;> simp [lead]
  | cons c r ih =>
    rw [List.all_cons, Bool.and_eq_true] at h
    cases m with
    | zero => simp at hm
    | succ m =>
      simp only [lead, h.1, if_true, List.length_cons]
      rw [ih m h.2 (by simpa using hm)]

theorem dec_shift (x : Nat) (l : List UInt8) : dec x l = x * 10 ^ l.length + dec 0 l := by
  induction l generalizing x with
  | nil => exact (Nat.mul_one x).symm
  | cons c r ih =>
    have h1 := ih (10 * x + (c.toNat - 48))
    have h2 := ih (10 * 0 + (c.toNat - 48))
    rw [List.length_cons]
    change dec (10 * x + (c.toNat - 48)) r = x * 10 ^ (r.length + 1) + dec (10 * 0 + (c.toNat - 48)) r
    rw [h1, h2, Nat.pow_succ]
    generalize 10 ^ r.length = P
    generalize c.toNat - 48 = d
    generalize dec 0 r = q
    rw [Nat.add_mul, Nat.mul_zero, Nat.zero_add, Nat.mul_comm 10 x, Nat.mul_assoc x 10 P, Nat.mul_comm 10 P, Nat.add_assoc]
theorem dec_append (x : Nat) (l r : List UInt8) : dec x (l ++ r) = dec (dec x l) r := by
  induction l generalizing x with
  | nil => rfl
  | cons c t ih => exact ih _
theorem dec_lt (l : List UInt8) (h : l.all isD = true) : dec 0 l < 10 ^ l.length := by
  induction l with
  | nil => exact Nat.one_pos
  | cons c r ih =>
    rw [List.all_cons, Bool.and_eq_true] at h
    have hc : c.toNat - 48 ≤ 9 := by
      have := of_decide_eq_true h.1
      omega
    rw [List.length_cons]
    change dec (10 * 0 + (c.toNat - 48)) r < 10 ^ (r.length + 1)
    rw [dec_shift, Nat.pow_succ]
    have h1 := ih h.2
    have h2 : (10 * 0 + (c.toNat - 48)) * 10 ^ r.length ≤ 9 * 10 ^ r.length := Nat.mul_le_mul_right _ (by omega)
    omega

theorem not_point (c : UInt8) (h : isD c = true) : c ≠ 46 := by
  rintro rfl
  exact absurd h (by decide)
theorem cut_digits (l r : List UInt8) (h : l.all isD = true) : cut46 (l ++ r) = (l ++ (cut46 r).1, (cut46 r).2.1, (cut46 r).2.2) := by
  induction l with
  | nil => rfl
  | cons c t ih =>
    rw [List.all_cons, Bool.and_eq_true] at h
    rw [List.cons_append]
    simp only [cut46]
    rw [if_neg (not_point c h.1), ih h.2]
    rfl

/-- They are the same. -/
theorem ref_size (l : List UInt8) : refSize l = size l := by
  have hl := lead_le 12 l
  have hd := lead_digits 12 l
  have hs := lead_stop 12 l
  unfold refSize
  generalize hn : lead 12 l = n at *
  have hA : l = l.take n ++ l.drop n := (List.take_append_drop n l).symm
  have hlen : (l.take n).length = n := by rw [List.length_take]; omega
  generalize l.take n = A at *
  generalize l.drop n = D at *
  subst hA
  unfold size
  rw [cut_digits A D hd]
  cases D with
  | nil =>
    simp only [cut46, List.append_nil, Bool.not_false, Bool.true_or, Bool.and_true, List.length_nil, Nat.pow_zero]
    unfold areD
    rw [hd, hlen]
    by_cases h0 : n = 0
    · simp [h0]
    · simp [h0]
      omega
  | cons c t =>
    by_cases hc : c = 46
    · subst hc
      simp only [cut46, if_true, List.append_nil, Bool.not_true, Bool.false_or]
      have ha : areD 12 A = decide (0 < n) := by
        unfold areD
        rw [hd, hlen]
        simp [hl.1]
      rw [ha]
      by_cases h0 : n = 0
      · simp [h0]
      · have hp : 0 < n := by omega
        rw [if_neg h0]
        simp only [hp, decide_true, Bool.true_and]
        have l3 := lead_le 3 t
        have d3 := lead_digits 3 t
        have a3 := lead_all 3 t
        by_cases hm : lead 3 t = 0 ∨ lead 3 t ≠ t.length
        · rw [if_pos (.inr hm), if_neg]
          intro h
          unfold areD at h
          rw [Bool.and_eq_true] at h
          have h1 := of_decide_eq_true h.1
          have := a3 h.2 h1.2
          omega
        · have hm1 : lead 3 t = t.length := by omega
          rw [if_neg (by simp; omega), if_pos]
          · rw [hm1, dec_append, dec_shift (dec 0 A) t]
          · unfold areD
            rw [hm1, List.take_length] at d3
            rw [d3]
            simp
            omega
    · have hw : areD 12 (A ++ (cut46 (c :: t)).1) = false := by
        have h1 : (cut46 (c :: t)).1 = c :: (cut46 t).1 := by
          simp only [cut46]
          rw [if_neg hc]
        rw [h1]
        unfold areD
        rcases hs c t rfl with h | h
        · have : ¬ (A ++ c :: (cut46 t).1).length ≤ 12 := by
            rw [List.length_append, List.length_cons]
            omega
          simp only [this, and_false, decide_false, Bool.false_and]
        · rw [List.all_append, List.all_cons, h]
          simp
      simp only [hw, Bool.false_and, Bool.false_eq_true, if_false]
      by_cases h0 : n = 0
      · rw [if_pos h0]
      · rw [if_neg h0, if_pos (.inl hc)]

/-- The first point by the library's words. -/
theorem cut_none (l : List UInt8) (h : Lib.indexByte l 46 = -1) : cut46 l = (l, [], false) := by
  induction l with
  | nil => rfl
  | cons c r ih =>
    unfold Lib.indexByte at h
    by_cases hc : c = 46
    · subst hc; simp at h
    · have hb : (c == 46) = false := by simpa using hc
      rw [hb] at h
      simp only [Bool.false_eq_true, if_false] at h
      have hge := Lib.indexByte_ge r 46
      have hr : Lib.indexByte r 46 = -1 := by
        by_cases he : Lib.indexByte r 46 = -1
        · exact he
        · have hne : (Lib.indexByte r 46 == -1) = false := by simpa using he
          rw [hne] at h
          simp only [Bool.false_eq_true, if_false] at h
          omega
      simp only [cut46]
      rw [if_neg hc, ih hr]
theorem cut_some (l : List UInt8) (i : Nat) (h : Lib.indexByte l 46 = (i : Int)) : i < l.length ∧ cut46 l = (l.take i, l.drop (i + 1), true) := by
  induction l generalizing i with
  | nil => unfold Lib.indexByte at h; omega
  | cons c r ih =>
    unfold Lib.indexByte at h
    by_cases hc : c = 46
    · subst hc
      simp at h
      obtain rfl : i = 0 := by omega
      simp [cut46]
    · have hb : (c == 46) = false := by simpa using hc
      rw [hb] at h
      simp only [Bool.false_eq_true, if_false] at h
      have hge := Lib.indexByte_ge r 46
      by_cases he : Lib.indexByte r 46 = -1
      · rw [he] at h
        simp at h
      · have hne : (Lib.indexByte r 46 == -1) = false := by simpa using he
        rw [hne] at h
        simp only [Bool.false_eq_true, if_false] at h
        obtain ⟨j, rfl⟩ : ∃ j, i = j + 1 := ⟨i - 1, by omega⟩
        obtain ⟨h1, h2⟩ := ih j (by omega)
        refine ⟨by simpa using h1, ?_⟩
        simp only [cut46]
        rw [if_neg hc, h2]
        rfl

/-- What a text's parts are bounded by. -/
theorem size_bound (l : List UInt8) (a b : Nat) (h : size l = some (a, b)) : a < 1000000000000000 ∧ 0 < b ∧ b ≤ 1000 := by
  unfold size at h
  split at h
  · rename_i hc
    simp only [Option.some.injEq, Prod.mk.injEq] at h
    rw [Bool.and_eq_true] at hc
    obtain ⟨h1, h2⟩ := hc
    have hp : ((cut46 l).2.1).length ≤ 3 ∧ ((cut46 l).2.1).all isD = true := by
      by_cases hb : (cut46 l).2.2 = true
      · rw [hb] at h2
        simp only [Bool.not_true, Bool.false_or] at h2
        unfold areD at h2
        rw [Bool.and_eq_true] at h2
        exact ⟨(of_decide_eq_true h2.1).2, h2.2⟩
      · have : (cut46 l).2.1 = [] := by
          clear h h1 h2
          induction l with
          | nil => rfl
          | cons c r ih =>
            simp only [cut46] at hb ⊢
            split at hb
            · exact absurd rfl hb
            · rename_i hne
              rw [if_neg hne]
              exact ih hb
        rw [this]
        exact ⟨by simp, rfl⟩
    unfold areD at h1
    rw [Bool.and_eq_true] at h1
    have h3 := (of_decide_eq_true h1.1).2
    have h4 := dec_lt ((cut46 l).1 ++ (cut46 l).2.1) (by rw [List.all_append, h1.2, hp.2]; rfl)
    rw [List.length_append] at h4
    have h5 : 10 ^ ((cut46 l).1.length + (cut46 l).2.1.length) ≤ 10 ^ 15 := Nat.pow_le_pow_right (by decide) (by omega)
    have h6 : 10 ^ (cut46 l).2.1.length ≤ 10 ^ 3 := Nat.pow_le_pow_right (by decide) hp.1
    have h7 : 0 < 10 ^ (cut46 l).2.1.length := Nat.pow_pos (by decide)
    rw [← h.1, ← h.2]
    refine ⟨by omega, h7, by omega⟩
  · cases h

theorem ratio_le (a b : Nat) (hb : 0 < b) (hla : a < 9007199254740992) (hlb : b < 1024) : ratio a b ≤ 9218868437227405312 := by
  unfold ratio
  split
  · omega
  · rename_i h
    have h1 := scale_spec a b (by omega) hb hla
    have h2 := scale_le a b hlb
    have h3 := rnd_le (a * 2 ^ scale a b) b 9007199254740992 hb h1.2
    generalize rnd (a * 2 ^ scale a b) b = R at *
    generalize scale a b = s at *
    clear h1
    omega

theorem number_le (l : List UInt8) (x : Nat) (h : number l = some x) : x ≤ 9218868437227405312 := by
  unfold number at h
  split at h
  · cases h; exact Nat.le_refl _
  · cases hz : size l with
    | none => rw [hz] at h; cases h
    | some p =>
      rw [hz] at h
      obtain ⟨a, b⟩ := p
      obtain ⟨h1, h2, h3⟩ := size_bound l a b hz
      cases h
      exact ratio_le a b h2 (by omega) (by omega)

end Rf
end Go.Proofs.Ythlbeehlcgnggaa
