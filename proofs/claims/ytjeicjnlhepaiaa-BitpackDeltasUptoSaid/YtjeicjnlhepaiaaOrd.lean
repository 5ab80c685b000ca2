/-
  The order of bytes: those of numbers stand as the numbers, those of texts as the texts, whatever stands behind them.
-/
import Derived.Test.YtjeicjnlhepaiaaTw
namespace Go.Proofs.Ytjeicjnlhepaiaa.Od

/-- How two rows of bytes stand. -/
def cp : List UInt8 → List UInt8 → Int
  | [], [] => 0
  | [], _ :: _ => -1
  | _ :: _, [] => 1
  | a :: x, b :: y => if a.toNat < b.toNat then -1 else if b.toNat < a.toNat then 1 else cp x y

theorem cp_self (x : List UInt8) : cp x x = 0 := by
  induction x with
  | nil => rfl
  | cons a x ih => simp [cp, ih]
theorem cp_eq {x y : List UInt8} : cp x y = 0 → x = y := by
  induction x generalizing y with
  | nil => cases y with
    | nil => intro _; rfl
    | cons b y => intro h; simp [cp] at h
  | cons a x ih => cases y with
    | nil => intro h; simp [cp] at h
    | cons b y =>
      intro h
      unfold cp at h
      split at h
      · omega
      · split at h
        · omega
        · rw [ih h, UInt8.toNat_inj.1 (show a.toNat = b.toNat by omega)]
theorem cp_vals (x y : List UInt8) : cp x y = -1 ∨ cp x y = 0 ∨ cp x y = 1 := by
  induction x generalizing y with
  | nil => cases y <;> simp [cp]
  | cons a x ih => cases y with
    | nil => simp [cp]
    | cons b y =>
      unfold cp
      split
      · exact Or.inl rfl
      · split
        · exact Or.inr (Or.inr rfl)
        · exact ih y
theorem cp_neg (x y : List UInt8) : cp y x = - cp x y := by
  induction x generalizing y with
  | nil => cases y <;> simp [cp]
  | cons a x ih => cases y with
    | nil => simp [cp]
    | cons b y =>
      unfold cp
      by_cases h : a.toNat < b.toNat
      · rw [if_neg (by omega), if_pos h, if_pos h]
        decide
      · by_cases h2 : b.toNat < a.toNat
        · rw [if_pos h2, if_neg h, if_pos h2]
        · rw [if_neg h2, if_neg h, if_neg h, if_neg h2, ih]
theorem cp_front (p x y : List UInt8) : cp (p ++ x) (p ++ y) = cp x y := by
  induction p with
  | nil => rfl
  | cons a p ih => simp [cp, ih]

theorem less_cp (x y : List UInt8) : Op.bytesLess x y = decide (cp x y = -1) := by
  induction x generalizing y with
  | nil => cases y <;> simp [Op.bytesLess, cp]
  | cons a x ih => cases y with
    | nil => simp [Op.bytesLess, cp]
    | cons b y =>
      simp only [Op.bytesLess, cp, ih]
      by_cases h : a.toNat < b.toNat
      · have : a < b := UInt8.lt_iff_toNat_lt.2 h
        simp [this, h]
      · have h' : ¬ a < b := fun e => h (UInt8.lt_iff_toNat_lt.1 e)
        by_cases h2 : b.toNat < a.toNat
        · have : ¬ a = b := fun e => by subst e; omega
          simp [h', h, h2, this]
        · have : a = b := UInt8.toNat_inj.1 (by omega)
          subst this
          simp

/-- Two beginnings decide, whatever stands behind them. -/
def Dec (x y : List UInt8) (c : Int) : Prop := ∀ r q, cp (x ++ r) (y ++ q) = c
theorem Dec.neg {x y : List UInt8} {c : Int} (h : Dec x y c) : Dec y x (-c) := fun r q => by rw [cp_neg (x ++ q) (y ++ r), h q r]
theorem Dec.cons {x y : List UInt8} {c : Int} (h : Dec x y c) (a : UInt8) : Dec (a :: x) (a :: y) c := fun r q => by
  have := h r q
  simp only [List.cons_append, cp]
  rw [if_neg (by omega), if_neg (by omega)]
  exact this
theorem dec_lt {a b : UInt8} (h : a.toNat < b.toNat) (x y : List UInt8) : Dec (a :: x) (b :: y) (-1) := fun r q => by simp [cp, h]
theorem Dec.here {x y : List UInt8} {c : Int} (h : Dec x y c) : cp x y = c := by have := h [] []; simpa using this

/-- The bytes of long numbers of one width. -/
theorem be_dec0 : ∀ (k m n : Nat), m % 256 ^ k < n % 256 ^ k → Dec (Pl.be 0 k m) (Pl.be 0 k n) (-1) := by
  intro k
  induction k with
  | zero => intro m n h; simp [Nat.mod_one] at h
  | succ k ih =>
    intro m n h
    rw [be_succ, be_succ]
    rw [Nat.pow_succ, Nat.mod_mul, Nat.mod_mul] at h
    have hp : 0 < 256 ^ k := Nat.pow_pos (by omega)
    have h1 := Nat.mod_lt m hp
    have h2 := Nat.mod_lt n hp
    rcases Nat.lt_trichotomy (m / 256 ^ k % 256) (n / 256 ^ k % 256) with hd | hd | hd
    · apply dec_lt
      rw [Nat.xor_zero, Nat.xor_zero, UInt8.toNat_ofNat', UInt8.toNat_ofNat']
      omega
    · rw [hd] at h ⊢
      exact (ih m n (by omega)).cons _
    · exfalso
      have : 256 ^ k * (n / 256 ^ k % 256 + 1) ≤ 256 ^ k * (m / 256 ^ k % 256) := Nat.mul_le_mul_left _ hd
      rw [Nat.mul_add] at this
      omega
theorem be_dec255 : ∀ (k m n : Nat), m % 256 ^ k < n % 256 ^ k → Dec (Pl.be 255 k m) (Pl.be 255 k n) 1 := by
  intro k
  induction k with
  | zero => intro m n h; simp [Nat.mod_one] at h
  | succ k ih =>
    intro m n h
    rw [be_succ, be_succ]
    rw [Nat.pow_succ, Nat.mod_mul, Nat.mod_mul] at h
    have hp : 0 < 256 ^ k := Nat.pow_pos (by omega)
    have h1 := Nat.mod_lt m hp
    have h2 := Nat.mod_lt n hp
    have e1 := not_byte ⟨m / 256 ^ k % 256, by omega⟩
    have e2 := not_byte ⟨n / 256 ^ k % 256, by omega⟩
    simp only at e1 e2
    rcases Nat.lt_trichotomy (m / 256 ^ k % 256) (n / 256 ^ k % 256) with hd | hd | hd
    · have := (dec_lt (a := UInt8.ofNat (n / 256 ^ k % 256 ^^^ 255)) (b := UInt8.ofNat (m / 256 ^ k % 256 ^^^ 255)) (by
        rw [e1, e2, UInt8.toNat_ofNat', UInt8.toNat_ofNat']
        omega) (Pl.be 255 k n) (Pl.be 255 k m)).neg
      simpa using this
    · rw [hd] at h ⊢
      exact (ih m n (by omega)).cons _
    · exfalso
      have : 256 ^ k * (n / 256 ^ k % 256 + 1) ≤ 256 ^ k * (m / 256 ^ k % 256) := Nat.mul_le_mul_left _ hd
      rw [Nat.mul_add] at this
      omega

theorem wid_mono {m n : Nat} (h : m ≤ n) : Pl.wid m ≤ Pl.wid n := by
  unfold Pl.wid
  repeat' split
  all_goals omega
theorem lt_wid (m : Nat) (h : m < 18446744073709551616) : m < 256 ^ Pl.wid m := by
  unfold Pl.wid
  repeat' split
  all_goals (simp only [Nat.reducePow]; omega)

theorem mag_nn {a : Int} (h : ¬ a < 0) : Pl.mag a = a.toNat ∧ Pl.sgn a = 0 := by
  unfold Pl.mag Pl.sgn
  rw [if_neg h, if_neg h]
  exact ⟨rfl, rfl⟩
theorem mag_neg {a : Int} (h : a < 0) : Pl.mag a = (-a - 1).toNat ∧ Pl.sgn a = 255 := by
  unfold Pl.mag Pl.sgn
  rw [if_pos h, if_pos h]
  exact ⟨rfl, rfl⟩

/-- The head of a number's bytes, and the others. -/
theorem numB_near {a : Int} (h : Pl.mag a < 112) : Pl.numB a = [UInt8.ofNat ((128 + Pl.mag a) ^^^ Pl.sgn a)] := by
  unfold Pl.numB
  rw [if_pos h]
theorem numB_long {a : Int} (h : ¬ Pl.mag a < 112) : Pl.numB a = UInt8.ofNat ((239 + Pl.wid (Pl.mag a - 112)) ^^^ Pl.sgn a) :: Pl.be (Pl.sgn a) (Pl.wid (Pl.mag a - 112)) (Pl.mag a - 112) := by
  unfold Pl.numB
  rw [if_neg h]
theorem hd0 (x : Nat) (h : x < 256) : (UInt8.ofNat (x ^^^ 0)).toNat = x := by
  rw [Nat.xor_zero, UInt8.toNat_ofNat']; omega
theorem hd255 (x : Nat) (h : x < 256) : (UInt8.ofNat (x ^^^ 255)).toNat = 255 - x := by
  have := not_byte ⟨x, h⟩
  simp only at this
  rw [this, UInt8.toNat_ofNat']; omega

/-- What numbers are: how the head stands. -/
theorem num_dec {a b : Int} (ha : -9223372036854775808 ≤ a) (hb : b ≤ 9223372036854775807) (h : a < b) : Dec (Pl.numB a) (Pl.numB b) (-1) := by
  have wa := Pl.wid_le (Pl.mag a - 112)
  have wb := Pl.wid_le (Pl.mag b - 112)
  by_cases na : a < 0
  · obtain ⟨ma, sa⟩ := mag_neg na
    by_cases nb : b < 0
    · obtain ⟨mb, sb⟩ := mag_neg nb
      by_cases fa : Pl.mag a < 112
      · have fb : Pl.mag b < 112 := by omega
        rw [numB_near fa, numB_near fb, sa, sb]
        apply dec_lt
        rw [hd255 _ (by omega), hd255 _ (by omega)]
        omega
      · by_cases fb : Pl.mag b < 112
        · rw [numB_long fa, numB_near fb, sa, sb]
          apply dec_lt
          rw [hd255 _ (by omega), hd255 _ (by omega)]
          omega
        · rw [numB_long fa, numB_long fb, sa, sb]
          have hw := wid_mono (show Pl.mag b - 112 ≤ Pl.mag a - 112 by omega)
          by_cases he : Pl.wid (Pl.mag b - 112) = Pl.wid (Pl.mag a - 112)
          · rw [he]
            apply Dec.cons
            have l1 := lt_wid (Pl.mag a - 112) (by omega)
            have l2 := lt_wid (Pl.mag b - 112) (by omega)
            rw [he] at l2
            have := (be_dec255 (Pl.wid (Pl.mag a - 112)) (Pl.mag b - 112) (Pl.mag a - 112) (by
              rw [Nat.mod_eq_of_lt l1, Nat.mod_eq_of_lt l2]
              omega)).neg
            exact this
          · apply dec_lt
            rw [hd255 _ (by omega), hd255 _ (by omega)]
            omega
    · obtain ⟨mb, sb⟩ := mag_nn nb
      by_cases fa : Pl.mag a < 112
      · rw [numB_near fa, sa]
        by_cases fb : Pl.mag b < 112
        · rw [numB_near fb, sb]
          apply dec_lt
          rw [hd255 _ (by omega), hd0 _ (by omega)]
          omega
        · rw [numB_long fb, sb]
          apply dec_lt
          rw [hd255 _ (by omega), hd0 _ (by omega)]
          omega
      · rw [numB_long fa, sa]
        by_cases fb : Pl.mag b < 112
        · rw [numB_near fb, sb]
          apply dec_lt
          rw [hd255 _ (by omega), hd0 _ (by omega)]
          omega
        · rw [numB_long fb, sb]
          apply dec_lt
          rw [hd255 _ (by omega), hd0 _ (by omega)]
          omega
  · obtain ⟨ma, sa⟩ := mag_nn na
    obtain ⟨mb, sb⟩ := mag_nn (show ¬ b < 0 by omega)
    by_cases fb : Pl.mag b < 112
    · have fa : Pl.mag a < 112 := by omega
      rw [numB_near fa, numB_near fb, sa, sb]
      apply dec_lt
      rw [hd0 _ (by omega), hd0 _ (by omega)]
      omega
    · by_cases fa : Pl.mag a < 112
      · rw [numB_near fa, numB_long fb, sa, sb]
        apply dec_lt
        rw [hd0 _ (by omega), hd0 _ (by omega)]
        omega
      · rw [numB_long fa, numB_long fb, sa, sb]
        have hw := wid_mono (show Pl.mag a - 112 ≤ Pl.mag b - 112 by omega)
        by_cases he : Pl.wid (Pl.mag a - 112) = Pl.wid (Pl.mag b - 112)
        · rw [he]
          apply Dec.cons
          have l1 := lt_wid (Pl.mag b - 112) (by omega)
          have l2 := lt_wid (Pl.mag a - 112) (by omega)
          rw [he] at l2
          exact be_dec0 (Pl.wid (Pl.mag b - 112)) (Pl.mag a - 112) (Pl.mag b - 112) (by
            rw [Nat.mod_eq_of_lt l1, Nat.mod_eq_of_lt l2]
            omega)
        · apply dec_lt
          rw [hd0 _ (by omega), hd0 _ (by omega)]
          omega

/-- How two numbers stand. -/
def sg (a b : Int) : Int := if a < b then -1 else if b < a then 1 else 0
theorem num_sg {a b : Int} (ha : -9223372036854775808 ≤ a) (ha' : a ≤ 9223372036854775807) (hb : -9223372036854775808 ≤ b) (hb' : b ≤ 9223372036854775807) (h : a ≠ b) : Dec (Pl.numB a) (Pl.numB b) (sg a b) := by
  unfold sg
  by_cases h1 : a < b
  · rw [if_pos h1]; exact num_dec ha hb' h1
  · rw [if_neg h1, if_pos (by omega)]
    exact (num_dec hb ha' (by omega)).neg

theorem textB_cons (c : UInt8) (t : List UInt8) : textB (c :: t) = (if c = 0 then [0, 255] else [c]) ++ textB t := by
  unfold textB
  rw [esc_cons, List.append_assoc]
theorem pos_of_ne {c : UInt8} (h : c ≠ 0) : 0 < c.toNat := by
  rcases Nat.eq_zero_or_pos c.toNat with h' | h'
  · exact absurd (UInt8.toNat_inj.1 h') h
  · exact h'
theorem text_nil_cons (c : UInt8) (t : List UInt8) : Dec (textB []) (textB (c :: t)) (-1) := by
  rw [textB_cons]
  show Dec [0, 1] _ _
  by_cases h : c = 0
  · rw [if_pos h]
    exact (dec_lt (by decide) _ _).cons 0
  · rw [if_neg h]
    exact dec_lt (a := 0) (b := c) (by simpa using pos_of_ne h) _ _
theorem text_lt {c d : UInt8} (h : c.toNat < d.toNat) (x y : List UInt8) : Dec (textB (c :: x)) (textB (d :: y)) (-1) := by
  have hd : d ≠ 0 := fun e => by subst e; simp at h
  rw [textB_cons, textB_cons, if_neg hd]
  by_cases hc : c = 0
  · rw [if_pos hc]
    exact dec_lt (a := 0) (b := d) (by simpa using pos_of_ne hd) _ _
  · rw [if_neg hc]
    exact dec_lt h _ _
/-- Unlike texts decide. -/
theorem text_dec : ∀ (s t : List UInt8), s ≠ t → Dec (textB s) (textB t) (cp s t) := by
  intro s
  induction s with
  | nil =>
    intro t h
    cases t with
    | nil => exact absurd rfl h
    | cons c t => exact text_nil_cons c t
  | cons c s ih =>
    intro t h
    cases t with
    | nil => exact (text_nil_cons c s).neg
    | cons d t =>
      unfold cp
      by_cases h1 : c.toNat < d.toNat
      · rw [if_pos h1]; exact text_lt h1 s t
      · by_cases h2 : d.toNat < c.toNat
        · rw [if_neg h1, if_pos h2]
          exact (text_lt h2 t s).neg
        · rw [if_neg h1, if_neg h2]
          have e : c = d := UInt8.toNat_inj.1 (by omega)
          subst e
          have hn : s ≠ t := fun e => h (by rw [e])
          rw [textB_cons, textB_cons]
          by_cases hc : c = 0
          · rw [if_pos hc]
            exact ((ih t hn).cons 255).cons 0
          · rw [if_neg hc]
            exact (ih t hn).cons c
end Go.Proofs.Ytjeicjnlhepaiaa.Od
