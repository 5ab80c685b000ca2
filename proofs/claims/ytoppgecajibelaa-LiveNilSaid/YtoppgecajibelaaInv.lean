/-
  What was written is read back as it was; what is read are just the bytes in which it is written.
-/
import Derived.Test.YtoppgecajibelaaOrd
import Derived.Test.YtoppgecajibelaaCur
namespace Go.Proofs.Ytoppgecajibelaa.Iv
open Od

theorem xor_xor (x f : Nat) (hx : x < 256) (hf : f < 256) : (UInt8.ofNat (x ^^^ f)).toNat ^^^ f = x := by
  have h : x ^^^ f < 256 := Nat.xor_lt_two_pow (n := 8) (by simpa using hx) (by simpa using hf)
  rw [UInt8.toNat_ofNat', Nat.mod_eq_of_lt h, Nat.xor_assoc, Nat.xor_self, Nat.xor_zero]
theorem val_be (f : Nat) (hf : f < 256) : ∀ (k m acc : Nat), Pl.val f (Pl.be f k m) acc = acc * 256 ^ k + m % 256 ^ k := by
  intro k
  induction k with
  | zero => intro m acc; simp [Pl.be, Pl.val, Nat.mod_one]
  | succ k ih =>
    intro m acc
    rw [be_succ]
    simp only [Pl.val]
    rw [xor_xor _ f (by omega) hf, ih, Nat.pow_succ, Nat.mod_mul, Nat.add_mul, Nat.mul_comm (256 ^ k) 256, ← Nat.mul_assoc, Nat.mul_comm acc 256, Nat.mul_comm (m / 256 ^ k % 256) (256 ^ k)]
    omega

theorem xor_bk (b : UInt8) (f : Nat) (hf : f < 256) : UInt8.ofNat ((b.toNat ^^^ f) % 256 ^^^ f) = b := by
  have h := Pl.xor_lt b f hf
  rw [Nat.mod_eq_of_lt h, Nat.xor_assoc, Nat.xor_self, Nat.xor_zero]
  exact UInt8.ofNat_toNat
theorem be_vl (f : Nat) (hf : f < 256) (l : List UInt8) : Pl.be f l.length (Pl.val f l 0) = l := by
  suffices h : ∀ n (l : List UInt8), l.length = n → Pl.be f l.length (Pl.val f l 0) = l from h _ l rfl
  intro n
  induction n with
  | zero => intro l h; obtain rfl := List.length_eq_zero_iff.1 h; rfl
  | succ n ih =>
    intro l h
    obtain ⟨r, b, rfl⟩ : ∃ r b, l = r ++ [b] := ⟨l.dropLast, l.getLast (by intro e; subst e; simp at h), (List.dropLast_concat_getLast _).symm⟩
    have hr : r.length = n := by simpa using h
    have hb := Pl.xor_lt b f hf
    rw [Pl.val_snoc, List.length_append, List.length_singleton, be_split]
    rw [show (256 * Pl.val f r 0 + (b.toNat ^^^ f)) / 256 = Pl.val f r 0 from by omega, show (256 * Pl.val f r 0 + (b.toNat ^^^ f)) % 256 = (b.toNat ^^^ f) % 256 from by omega, ih r hr, xor_bk b f hf]

theorem wid_le_k (m k : Nat) (hk : 1 ≤ k) (h : m < 256 ^ k) : Pl.wid m ≤ k := by
  have h8 := Pl.wid_le m
  rcases Nat.lt_or_ge 8 k with h' | h'
  · omega
  · have hc : k = 1 ∨ k = 2 ∨ k = 3 ∨ k = 4 ∨ k = 5 ∨ k = 6 ∨ k = 7 ∨ k = 8 := by omega
    unfold Pl.wid
    rcases hc with rfl | rfl | rfl | rfl | rfl | rfl | rfl | rfl <;> simp only [Nat.reducePow] at h <;> repeat' split
    all_goals omega

theorem rdNum_near (c : UInt8) (r : List UInt8) (h : c.toNat ^^^ Pl.flipOf c < 240) : Pl.rdNum (c :: r) = Pl.back (Pl.flipOf c) (((c.toNat ^^^ Pl.flipOf c : Nat) : Int) - 128, 1, 0) := by
  simp only [Pl.rdNum]
  rw [if_pos h]
theorem rdNum_wide (c : UInt8) (r : List UInt8) (h : ¬ c.toNat ^^^ Pl.flipOf c < 240) : Pl.rdNum (c :: r) = Pl.back (Pl.flipOf c) (Pl.rdWide c r (Pl.flipOf c)) := by
  simp only [Pl.rdNum]
  rw [if_neg h]

theorem flip_of (x f : Nat) (hx : 128 ≤ x) (hx2 : x < 256) (hf : f = 0 ∨ f = 255) : Pl.flipOf (UInt8.ofNat (x ^^^ f)) = f ∧ (UInt8.ofNat (x ^^^ f)).toNat ^^^ f = x := by
  refine ⟨?_, xor_xor x f hx2 (by omega)⟩
  unfold Pl.flipOf
  rcases hf with rfl | rfl
  · rw [hd0 x hx2, if_neg (by omega)]
  · rw [hd255 x hx2, if_pos (by omega)]

/-- A number that was written is read as it was, whatever stands behind it. -/
theorem num_back (n : Int) (r : List UInt8) (h0 : -9223372036854775808 ≤ n) (h1 : n ≤ 9223372036854775807) : Pl.rdNum (Pl.numB n ++ r) = (n, ((Pl.numB n).length : Int), 0) := by
  have hsg : Pl.sgn n = 0 ∨ Pl.sgn n = 255 := by unfold Pl.sgn; split <;> omega
  have hw := Pl.wid_le (Pl.mag n - 112)
  have hb : Pl.back (Pl.sgn n) ((Pl.mag n : Int), 0, 0) = (n, 0, 0) := by
    by_cases hn : n < 0
    · obtain ⟨e1, e2⟩ := mag_neg hn
      rw [e2]
      unfold Pl.back
      rw [if_pos ⟨rfl, by omega⟩]
      simp only [Prod.mk.injEq, and_true]
      omega
    · obtain ⟨e1, e2⟩ := mag_nn hn
      rw [e2]
      unfold Pl.back
      rw [if_neg (by omega)]
      simp only [Prod.mk.injEq, and_true]
      omega
  have hb2 : ∀ z : Int, Pl.back (Pl.sgn n) ((Pl.mag n : Int), z, 0) = (n, z, 0) := by
    intro z
    unfold Pl.back at hb ⊢
    split at hb
    · rename_i hc
      rw [if_pos hc]
      simp only [Prod.mk.injEq, and_true] at hb ⊢
      exact hb
    · rename_i hc
      rw [if_neg hc]
      simp only [Prod.mk.injEq, and_true] at hb ⊢
      exact hb
  have hm : Pl.mag n ≤ 9223372036854775807 := by
    by_cases hn : n < 0
    · have := (mag_neg hn).1; omega
    · have := (mag_nn hn).1; omega
  by_cases hnear : Pl.mag n < 112
  · obtain ⟨f1, f2⟩ := flip_of (128 + Pl.mag n) (Pl.sgn n) (by omega) (by omega) hsg
    rw [numB_near hnear]
    show Pl.rdNum (_ :: r) = _
    rw [rdNum_near _ r (by rw [f1, f2]; omega), f1, f2]
    rw [show ((128 + Pl.mag n : Nat) : Int) - 128 = (Pl.mag n : Int) from by omega]
    exact hb2 1
  · obtain ⟨f1, f2⟩ := flip_of (239 + Pl.wid (Pl.mag n - 112)) (Pl.sgn n) (by omega) (by omega) hsg
    rw [numB_long hnear, List.cons_append, rdNum_wide _ _ (by rw [f1, f2]; omega), f1]
    have hl := lt_wid (Pl.mag n - 112) (by omega)
    unfold Pl.rdWide
    rw [f2, if_neg (by omega), if_neg (by rw [List.length_append, be_length]; omega)]
    rw [show 239 + Pl.wid (Pl.mag n - 112) - 239 = (Pl.be (Pl.sgn n) (Pl.wid (Pl.mag n - 112)) (Pl.mag n - 112)).length from by rw [be_length]; omega]
    rw [List.take_left, val_be (Pl.sgn n) (by omega), Nat.zero_mul, Nat.zero_add, Nat.mod_eq_of_lt hl, be_length, if_neg (by omega)]
    rw [show ((Pl.mag n - 112 : Nat) : Int) + 112 = (Pl.mag n : Int) from by omega, hb2]
    rw [List.length_cons, be_length]
    simp only [Prod.mk.injEq, and_true, true_and]
    omega

theorem count_back (n : Nat) (r : List UInt8) (h1 : n ≤ 9223372036854775807) : Pl.rdCount (Pl.numB n ++ r) = ((n : Int), ((Pl.numB n).length : Int), 0) := by
  unfold Pl.rdCount
  rw [num_back n r (by omega) (by omega), if_neg (by simp)]

/-- What was gone over are just the bytes in which it is written. -/
theorem num_one (l : List UInt8) (n z : Int) (h : Pl.rdNum l = (n, z, 0)) : Pl.numB n = l.take z.toNat := by
  cases l with
  | nil => simp [Pl.rdNum] at h
  | cons c t =>
    have hu := c.toNat_lt
    have hnb := not_byte ⟨c.toNat, hu⟩
    simp only at hnb
    have hfc : (c.toNat < 128 ∧ Pl.flipOf c = 255 ∧ c.toNat ^^^ Pl.flipOf c = 255 - c.toNat) ∨ (128 ≤ c.toNat ∧ Pl.flipOf c = 0 ∧ c.toNat ^^^ Pl.flipOf c = c.toNat) := by
      by_cases hd : c.toNat < 128
      · refine Or.inl ⟨hd, ?_⟩
        have : Pl.flipOf c = 255 := by unfold Pl.flipOf; rw [if_pos hd]
        rw [this]
        exact ⟨rfl, hnb⟩
      · refine Or.inr ⟨by omega, ?_⟩
        have : Pl.flipOf c = 0 := by unfold Pl.flipOf; rw [if_neg hd]
        rw [this]
        exact ⟨rfl, Nat.xor_zero _⟩
    by_cases hn : c.toNat ^^^ Pl.flipOf c < 240
    · rw [rdNum_near c t hn] at h
      rcases hfc with ⟨hd, hf, ha⟩ | ⟨hd, hf, ha⟩
      · rw [ha] at h hn
        rw [hf] at h
        unfold Pl.back at h
        rw [if_pos ⟨rfl, by omega⟩] at h
        obtain ⟨h1, h2⟩ : -(((255 - c.toNat : Nat) : Int) - 128) - 1 = n ∧ 1 = z := by simpa using h
        have hneg : n < 0 := by omega
        obtain ⟨e1, e2⟩ := mag_neg hneg
        rw [numB_near (by omega), e2, ← h2]
        show _ = [c]
        congr 1
        apply UInt8.toNat_inj.1
        rw [hd255 _ (by omega)]
        omega
      · rw [ha] at h hn
        rw [hf] at h
        obtain ⟨h1, h2⟩ : (c.toNat : Int) - 128 = n ∧ 1 = z := by simpa [Pl.back] using h
        have hneg : ¬ n < 0 := by omega
        obtain ⟨e1, e2⟩ := mag_nn hneg
        rw [numB_near (by omega), e2, ← h2]
        show _ = [c]
        congr 1
        apply UInt8.toNat_inj.1
        rw [hd0 _ (by omega)]
        omega
    · rw [rdNum_wide c t hn] at h
      have hf256 : Pl.flipOf c < 256 := by rcases hfc with ⟨_, hf, _⟩ | ⟨_, hf, _⟩ <;> omega
      obtain ⟨n', z', e', hw⟩ : ∃ n z e, Pl.rdWide c t (Pl.flipOf c) = (n, z, e) := ⟨_, _, _, rfl⟩
      rw [hw] at h
      have he : e' = 0 := by
        unfold Pl.back at h
        split at h
        · rename_i h0; exact h0.1
        · have : n' = n ∧ z' = z ∧ e' = 0 := by simpa using h
          exact this.2.2
      subst he
      have hz : z' = z := by
        unfold Pl.back at h
        split at h
        · have : -n' - 1 = n ∧ z' = z := by simpa using h
          exact this.2
        · have : n' = n ∧ z' = z := by simpa using h
          exact this.2
      unfold Pl.rdWide at hw
      generalize ha : c.toNat ^^^ Pl.flipOf c = a at *
      by_cases g1 : 247 < a
      · rw [if_pos g1] at hw; simp at hw
      · rw [if_neg g1] at hw
        by_cases g2 : t.length < a - 239
        · rw [if_pos g2] at hw; simp at hw
        · rw [if_neg g2] at hw
          by_cases g3 : Pl.wid (Pl.val (Pl.flipOf c) (t.take (a - 239)) 0) < a - 239 ∨ 9223372036854775695 < Pl.val (Pl.flipOf c) (t.take (a - 239)) 0
          · rw [if_pos g3] at hw; simp at hw
          · rw [if_neg g3] at hw
            obtain ⟨k, rfl⟩ : ∃ k, a = k + 239 := ⟨a - 239, by omega⟩
            rw [Nat.add_sub_cancel] at hw g2 g3
            have hlk : (t.take k).length = k := by rw [List.length_take]; omega
            have hbv := be_vl (Pl.flipOf c) hf256 (t.take k)
            have hvl := Pl.val_lt (Pl.flipOf c) hf256 (t.take k) 0 0 (by simp)
            rw [hlk] at hbv
            rw [hlk, Nat.zero_add] at hvl
            generalize Pl.val (Pl.flipOf c) (t.take k) 0 = m at *
            have hwk : Pl.wid m = k := by
              have := wid_le_k m k (by omega) hvl
              omega
            obtain ⟨h1, h2⟩ : (m : Int) + 112 = n' ∧ ((k + 239 : Nat) : Int) - 238 = z' := by simpa using hw
            have hzt : z.toNat = k + 1 := by omega
            rw [hzt, List.take_succ_cons]
            rcases hfc with ⟨hd, hf, hq⟩ | ⟨hd, hf, hq⟩
            · rw [hf] at h hbv
              unfold Pl.back at h
              rw [if_pos ⟨rfl, by omega⟩] at h
              obtain ⟨h3, _⟩ : -n' - 1 = n ∧ z' = z := by simpa using h
              have hneg : n < 0 := by omega
              obtain ⟨e1, e2⟩ := mag_neg hneg
              have em : Pl.mag n - 112 = m := by omega
              have hcc : UInt8.ofNat ((239 + k) ^^^ 255) = c := UInt8.toNat_inj.1 (by rw [hd255 _ (by omega)]; omega)
              rw [numB_long (by omega), e2, em, hwk, hbv, hcc]
            · rw [hf] at h hbv
              obtain ⟨h3, _⟩ : n' = n ∧ z' = z := by simpa [Pl.back] using h
              have hneg : ¬ n < 0 := by omega
              obtain ⟨e1, e2⟩ := mag_nn hneg
              have em : Pl.mag n - 112 = m := by omega
              have hcc : UInt8.ofNat ((239 + k) ^^^ 0) = c := UInt8.toNat_inj.1 (by rw [hd0 _ (by omega)]; omega)
              rw [numB_long (by omega), e2, em, hwk, hbv, hcc]
theorem count_one (l : List UInt8) (n z : Int) (h : Pl.rdCount l = (n, z, 0)) : Pl.numB n = l.take z.toNat ∧ 0 ≤ n := by
  unfold Pl.rdCount at h
  by_cases hn : (Pl.rdNum l).1 < 0
  · rw [if_pos hn] at h; simp at h
  · rw [if_neg hn] at h
    rw [h] at hn
    exact ⟨num_one l n z h, by simpa using hn⟩

end Go.Proofs.Ytoppgecajibelaa.Iv
