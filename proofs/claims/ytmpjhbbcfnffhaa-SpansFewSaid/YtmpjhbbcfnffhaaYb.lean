/-
  What rows hold, plainly: how many texts, which characters; how many rows there are; no program is named here.
-/
import Derived.Test.YtmpjhbbcfnffhaaYa
namespace Go.Proofs.Ytmpjhbbcfnffhaa.Sp
open Go.Lib

/-- How many texts a row holds. -/
def cnt (r : List (Int × Int)) : Int := r.foldl (fun n x => n * (x.2 - x.1 + 1)) 1
/-- Does a row hold these bytes. -/
def fits : List (Int × Int) → List UInt8 → Bool
  | [], [] => true
  | r :: rs, c :: cs => decide (r.1 ≤ (c.toNat : Int) ∧ (c.toNat : Int) ≤ r.2) && fits rs cs
  | _, _ => false
def fitsZ : List (Int × Int) → List Int → Bool
  | [], [] => true
  | r :: rs, c :: cs => decide (r.1 ≤ c ∧ c ≤ r.2) && fitsZ rs cs
  | _, _ => false
theorem fits_of : ∀ (r : List (Int × Int)) (l : List Int), (∀ x ∈ l, 0 ≤ x ∧ x < 256) → fits r (l.map fun x => x.toNat.toUInt8) = fitsZ r l
  | [], [], _ => rfl
  | [], _ :: _, _ => rfl
  | _ :: _, [], _ => rfl
  | r :: rs, c :: cs, h => by
    have hc := h c (List.mem_cons_self ..)
    show (decide _ && fits rs _) = (decide _ && fitsZ rs cs)
    rw [fits_of rs cs fun x hx => h x (List.mem_cons_of_mem _ hx), Ut.byteI c hc.1 hc.2]
theorem fits_rune (r : List (Int × Int)) (c : Int) : fits r (encodeRune c) = fitsZ r (encodeRuneZ c) := fits_of r _ (encodeRuneZ_byte c)

/-- The digits of a number. -/
theorem digits (x : Int) (_h0 : 0 ≤ x) (_h1 : x ≤ 1114111) : ∃ x3 x2 x1 x0 : Int, x = x3 * 262144 + x2 * 4096 + x1 * 64 + x0 ∧ 0 ≤ x0 ∧ x0 < 64 ∧ 0 ≤ x1 ∧ x1 < 64 ∧ 0 ≤ x2 ∧ x2 < 64 ∧ 0 ≤ x3 ∧ x3 ≤ 4 ∧
    x / 262144 = x3 ∧ x / 4096 % 64 = x2 ∧ x / 64 % 64 = x1 ∧ x % 64 = x0 ∧ x / 4096 = x3 * 64 + x2 ∧ x / 64 = x3 * 4096 + x2 * 64 + x1 := by
  refine ⟨x / 262144, x / 4096 % 64, x / 64 % 64, x % 64, ?_⟩
  omega
/-- A row of good ends lies within a cut. -/
inductive InCut : Int → Int → Nat → Prop
  | c0 : InCut 0 127 0
  | c1 : InCut 128 2047 1
  | c2 : InCut 2048 55295 2
  | c3 : InCut 57344 65535 2
  | c4 : InCut 65536 1114111 3
theorem inCut_of {k : Int × Int × Nat} (h : k ∈ cuts) : InCut k.1 k.2.1 k.2.2 := by
  simp only [cuts, List.mem_cons, List.not_mem_nil, or_false] at h
  rcases h with rfl | rfl | rfl | rfl | rfl
  · exact .c0
  · exact .c1
  · exact .c2
  · exact .c3
  · exact .c4
/-- What is asked of a row whose ends are good: its ranges, one by one. -/
structure Row (tails : Nat) (a b : Int) (r : List (Int × Int)) : Prop where
  cnt : cnt r = b - a + 1
  len : r.length = tails + 1
  rng : ∀ x ∈ r, 0 ≤ x.1 ∧ x.1 ≤ x.2 ∧ x.2 ≤ 255
  fit : ∀ c, Ut.whole c = true → fitsZ r (encodeRuneZ c) = decide (a ≤ c ∧ c ≤ b)
theorem row0 (a b : Int) (h0 : 0 ≤ a) (hb : b ≤ 127) (hab : a ≤ b) : Row 0 a b [(a, b)] := by
  refine ⟨?_, rfl, ?_, ?_⟩
  · show 1 * (b - a + 1) = _
    omega
  · intro x hx
    obtain rfl := List.mem_singleton.1 hx
    omega
  · intro c hc
    rcases Ut.run_cases c hc with ⟨h1, h2, e⟩ | ⟨h1, h2, e⟩ | ⟨h1, e⟩ | ⟨h1, h2, e⟩ <;> rw [e]
    · simp [fitsZ]
    · simp [fitsZ]; omega
    · simp [fitsZ]; omega
    · simp [fitsZ]; omega
theorem row1 (a b : Int) (h0 : 128 ≤ a) (hb : b ≤ 2047) (hab : a ≤ b) (h : (a / 64 = b / 64) ∨ (a % 64 = 0 ∧ b % 64 = 63)) : Row 1 a b [(192 + a / 64, 192 + b / 64), (128 + a % 64, 128 + b % 64)] := by
  refine ⟨?_, rfl, ?_, ?_⟩
  · show 1 * (192 + b / 64 - (192 + a / 64) + 1) * (128 + b % 64 - (128 + a % 64) + 1) = _
    rcases h with h | ⟨h1, h2⟩
    · rw [h, show 1 * (192 + b / 64 - (192 + b / 64) + 1) = 1 by omega]
      omega
    · rw [h1, h2]
      omega
  · intro x hx
    simp only [List.mem_cons, List.not_mem_nil, or_false] at hx
    rcases hx with rfl | rfl
    · dsimp only; omega
    · dsimp only; omega
  · intro c hc
    rcases Ut.run_cases c hc with ⟨h1, h2, e⟩ | ⟨h1, h2, e⟩ | ⟨h1, e⟩ | ⟨h1, h2, e⟩ <;> rw [e]
    · simp [fitsZ]; omega
    · simp only [fitsZ, Bool.and_true, ← Bool.decide_and]
      refine decide_eq_decide.2 ?_
      constructor
      · rcases h with h | h <;> omega
      · rcases h with h | h <;> omega
    · simp [fitsZ]; omega
    · simp [fitsZ]; omega
theorem row2 (a b : Int) (h0 : (2048 ≤ a ∧ b ≤ 55295) ∨ (57344 ≤ a ∧ b ≤ 65535)) (hab : a ≤ b)
    (h : (a / 64 = b / 64) ∨ (a / 4096 = b / 4096 ∧ a % 64 = 0 ∧ b % 64 = 63) ∨ (a % 64 = 0 ∧ a / 64 % 64 = 0 ∧ b % 64 = 63 ∧ b / 64 % 64 = 63)) :
    Row 2 a b [(224 + a / 4096, 224 + b / 4096), (128 + a / 64 % 64, 128 + b / 64 % 64), (128 + a % 64, 128 + b % 64)] := by
  obtain ⟨a3, a2, a1, a0, ea, r0, r1, r2, r3, r4, r5, r6, r7, d3, d2, d1, d0, e2, e1⟩ := digits a (by omega) (by omega)
  obtain ⟨b3, b2, b1, b0, eb, s0, s1, s2, s3, s4, s5, s6, s7, f3, f2, f1, f0, g2, g1⟩ := digits b (by omega) (by omega)
  rw [d1, d0, f1, f0, e1, e2, g1, g2] at h
  refine ⟨?_, rfl, ?_, ?_⟩
  · show 1 * (224 + b / 4096 - (224 + a / 4096) + 1) * (128 + b / 64 % 64 - (128 + a / 64 % 64) + 1) * (128 + b % 64 - (128 + a % 64) + 1) = _
    rw [e2, g2, d1, f1, d0, f0]
    clear d3 d2 d1 d0 f3 f2 f1 f0 e2 e1 g2 g1
    rcases h with h | ⟨h1, h2, h3⟩ | ⟨h1, h2, h3, h4⟩
    · obtain rfl : b3 = a3 := by omega
      obtain rfl : b2 = a2 := by omega
      obtain rfl : b1 = a1 := by omega
      rw [show 1 * (224 + (b3 * 64 + b2) - (224 + (b3 * 64 + b2)) + 1) = 1 by omega, show 1 * (128 + b1 - (128 + b1) + 1) = 1 by omega]
      omega
    · obtain rfl : b3 = a3 := by omega
      obtain rfl : b2 = a2 := by omega
      rw [show 1 * (224 + (b3 * 64 + b2) - (224 + (b3 * 64 + b2)) + 1) = 1 by omega, h2, h3]
      omega
    · rw [h1, h2, h3, h4, show (128 + (63 : Int) - (128 + 0) + 1) = 64 by omega]
      omega
  · intro x hx
    simp only [List.mem_cons, List.not_mem_nil, or_false] at hx
    rcases hx with rfl | rfl | rfl
    · dsimp only; omega
    · dsimp only; omega
    · dsimp only; omega
  · intro c hc
    rcases Ut.run_cases c hc with ⟨h1, h2, e⟩ | ⟨h1, h2, e⟩ | ⟨h1, e⟩ | ⟨h1, h2, e⟩ <;> rw [e]
    · simp [fitsZ]; omega
    · simp [fitsZ]; omega
    · simp only [fitsZ, Bool.and_true, ← Bool.decide_and]
      refine decide_eq_decide.2 ?_
      obtain ⟨c3, c2, c1, c0, ec, t0, t1, t2, t3, t4, t5, t6, t7, i3, i2, i1, i0, j2, j1⟩ := digits c (by omega) (by omega)
      rw [e2, g2, d1, f1, d0, f0, j2, i1, i0]
      clear d3 d2 d1 d0 f3 f2 f1 f0 e2 e1 g2 g1 i3 i2 i1 i0 j2 j1
      constructor
      · rcases h with h | h | h <;> omega
      · rcases h with h | h | h <;> omega
    · simp [fitsZ]; omega
theorem row3 (a b : Int) (h0 : 65536 ≤ a) (hb : b ≤ 1114111) (hab : a ≤ b)
    (h : (a / 64 = b / 64) ∨ (a / 4096 = b / 4096 ∧ a % 64 = 0 ∧ b % 64 = 63) ∨ (a / 262144 = b / 262144 ∧ a % 64 = 0 ∧ a / 64 % 64 = 0 ∧ b % 64 = 63 ∧ b / 64 % 64 = 63) ∨
      (a % 64 = 0 ∧ a / 64 % 64 = 0 ∧ a / 4096 % 64 = 0 ∧ b % 64 = 63 ∧ b / 64 % 64 = 63 ∧ b / 4096 % 64 = 63)) :
    Row 3 a b [(240 + a / 262144, 240 + b / 262144), (128 + a / 4096 % 64, 128 + b / 4096 % 64), (128 + a / 64 % 64, 128 + b / 64 % 64), (128 + a % 64, 128 + b % 64)] := by
  obtain ⟨a3, a2, a1, a0, ea, r0, r1, r2, r3, r4, r5, r6, r7, d3, d2, d1, d0, e2, e1⟩ := digits a (by omega) (by omega)
  obtain ⟨b3, b2, b1, b0, eb, s0, s1, s2, s3, s4, s5, s6, s7, f3, f2, f1, f0, g2, g1⟩ := digits b (by omega) (by omega)
  rw [d1, d0, f1, f0, e1, g1, d3, f3, d2, f2, e2, g2] at h
  refine ⟨?_, rfl, ?_, ?_⟩
  · show 1 * (240 + b / 262144 - (240 + a / 262144) + 1) * (128 + b / 4096 % 64 - (128 + a / 4096 % 64) + 1) * (128 + b / 64 % 64 - (128 + a / 64 % 64) + 1) * (128 + b % 64 - (128 + a % 64) + 1) = _
    rw [d3, f3, d2, f2, d1, f1, d0, f0]
    clear d3 d2 d1 d0 f3 f2 f1 f0 e2 e1 g2 g1
    rcases h with h | ⟨h1, h2, h3⟩ | ⟨h1, h2, h3, h4, h5⟩ | ⟨h1, h2, h3, h4, h5, h6⟩
    · obtain rfl : b3 = a3 := by omega
      obtain rfl : b2 = a2 := by omega
      obtain rfl : b1 = a1 := by omega
      rw [show 1 * (240 + b3 - (240 + b3) + 1) = 1 by omega, show 1 * (128 + b2 - (128 + b2) + 1) = 1 by omega, show 1 * (128 + b1 - (128 + b1) + 1) = 1 by omega]
      omega
    · obtain rfl : b3 = a3 := by omega
      obtain rfl : b2 = a2 := by omega
      rw [show 1 * (240 + b3 - (240 + b3) + 1) = 1 by omega, show 1 * (128 + b2 - (128 + b2) + 1) = 1 by omega, h2, h3]
      omega
    · obtain rfl : b3 = a3 := by omega
      rw [show 1 * (240 + b3 - (240 + b3) + 1) = 1 by omega, h2, h3, h4, h5, show (128 + (63 : Int) - (128 + 0) + 1) = 64 by omega]
      omega
    · rw [h1, h2, h3, h4, h5, h6, show (128 + (63 : Int) - (128 + 0) + 1) = 64 by omega]
      omega
  · intro x hx
    simp only [List.mem_cons, List.not_mem_nil, or_false] at hx
    rcases hx with rfl | rfl | rfl | rfl
    · dsimp only; omega
    · dsimp only; omega
    · dsimp only; omega
    · dsimp only; omega
  · intro c hc
    rcases Ut.run_cases c hc with ⟨h1, h2, e⟩ | ⟨h1, h2, e⟩ | ⟨h1, e⟩ | ⟨h1, h2, e⟩ <;> rw [e]
    · simp [fitsZ]; omega
    · simp [fitsZ]; omega
    · simp [fitsZ]; omega
    · simp only [fitsZ, Bool.and_true, ← Bool.decide_and]
      refine decide_eq_decide.2 ?_
      obtain ⟨c3, c2, c1, c0, ec, t0, t1, t2, t3, t4, t5, t6, t7, i3, i2, i1, i0, j2, j1⟩ := digits c (by omega) (by omega)
      rw [d3, f3, d2, f2, d1, f1, d0, f0, i3, i2, i1, i0]
      clear d3 d2 d1 d0 f3 f2 f1 f0 e2 e1 g2 g1 i3 i2 i1 i0 j2 j1
      constructor
      · rcases h with h | h | h | h <;> omega
      · rcases h with h | h | h | h <;> omega
/-- A row of good ends. -/
theorem row_good {f l : Int} {tails t : Nat} {a b : Int} (hk : InCut f l tails) (h : Good f l tails t a b) : Row tails a b (rowOf (a, b)) := by
  obtain ⟨tl, lo, hi, le, a0, b0, pre⟩ := h
  unfold rowOf
  have ht : t = 0 ∨ t = 1 ∨ t = 2 ∨ t = 3 := by cases hk <;> omega
  cases hk
  · rw [encodeRuneZ_one (by omega) (by omega), encodeRuneZ_one (by omega) (by omega)]
    exact row0 a b lo hi le
  · rw [encodeRuneZ_two (by omega) (by omega), encodeRuneZ_two (by omega) (by omega)]
    refine row1 a b lo hi le ?_
    rcases ht with rfl | rfl | rfl | rfl
    · simp only [pw0, Nat.zero_add, pw1] at *; omega
    · simp only [pw1] at *; omega
    · omega
    · omega
  · rw [encodeRuneZ_three (by omega), encodeRuneZ_three (by omega)]
    refine row2 a b (by omega) le ?_
    rcases ht with rfl | rfl | rfl | rfl
    · simp only [pw0, Nat.zero_add, pw1] at *; omega
    · simp only [Nat.reduceAdd, pw1, pw2] at *; omega
    · simp only [pw2] at *; omega
    · omega
  · rw [encodeRuneZ_three (by omega), encodeRuneZ_three (by omega)]
    refine row2 a b (by omega) le ?_
    rcases ht with rfl | rfl | rfl | rfl
    · simp only [pw0, Nat.zero_add, pw1] at *; omega
    · simp only [Nat.reduceAdd, pw1, pw2] at *; omega
    · simp only [pw2] at *; omega
    · omega
  · rw [encodeRuneZ_four (by omega) (by omega), encodeRuneZ_four (by omega) (by omega)]
    refine row3 a b lo hi le ?_
    rcases ht with rfl | rfl | rfl | rfl
    · simp only [pw0, Nat.zero_add, pw1] at *; omega
    · simp only [Nat.reduceAdd, pw1, pw2] at *; omega
    · simp only [Nat.reduceAdd, pw2, pw3] at *; omega
    · simp only [pw3] at *; omega
end Go.Proofs.Ytmpjhbbcfnffhaa.Sp
