/-
  What bytes are read as a set, plainly; one form for each set.
-/
import Derived.Test.YtoppgecajibelaaSe
namespace Go.Proofs.Ytoppgecajibelaa.Ls
/-- The bit at a place of bytes. -/
def bt (t : List UInt8) (p : Nat) : Bool := (t.getD (p / 8) 0).toNat.testBit (p % 8)
/-- The places below one at which a bit is set. -/
def ones (t : List UInt8) (p : Nat) : List Nat := (List.range p).filter (bt t)
theorem ones_succ (t : List UInt8) (p : Nat) : ones t (p + 1) = if bt t p = true then ones t p ++ [p] else ones t p := by
  unfold ones
  rw [List.range_succ, List.filter_append]
  by_cases h : bt t p = true
  · rw [if_pos h]
    simp [h]
  · rw [if_neg h]
    simp [h]
theorem ones_nodup (t : List UInt8) (p : Nat) : (ones t p).Nodup := List.nodup_range.filter _
theorem ones_mem (t : List UInt8) (p g : Nat) : g ∈ ones t p ↔ g < p ∧ bt t g = true := by
  unfold ones
  rw [List.mem_filter, List.mem_range]
/-- What a set's bytes are read as: the error, how many documents, which are gone. -/
def rdT (n : Nat) (t : List UInt8) : Int × List Nat :=
  if t.length < (n + 7) / 8 then (2, []) else if (n + 7) / 8 < t.length then (5, []) else if (∀ g ∈ ones t (8 * t.length), g < n) then (0, ones t (8 * t.length)) else (3, [])
def rd (s : List UInt8) : Int × Nat × List Nat :=
  if (Pl.rdCount s).2.2 ≠ 0 then ((Pl.rdCount s).2.2, 0, []) else if 1048576 < (Pl.rdCount s).1 then (4, 0, []) else
  ((rdT (Pl.rdCount s).1.toNat (s.drop (Pl.rdCount s).2.1.toNat)).1, (Pl.rdCount s).1.toNat, (rdT (Pl.rdCount s).1.toNat (s.drop (Pl.rdCount s).2.1.toNat)).2)
theorem rdT_ok {n : Nat} {t : List UInt8} {G : List Nat} (h : rdT n t = (0, G)) : Ok n G ∧ bytesN n (val G) = t := by
  unfold rdT at h
  by_cases h1 : t.length < (n + 7) / 8
  · rw [if_pos h1] at h; simp at h
  · by_cases h2 : (n + 7) / 8 < t.length
    · rw [if_neg h1, if_pos h2] at h; simp at h
    · rw [if_neg h1, if_neg h2] at h
      by_cases h3 : ∀ g ∈ ones t (8 * t.length), g < n
      · rw [if_pos h3] at h
        obtain rfl : ones t (8 * t.length) = G := by injection h
        have hl : t.length = (n + 7) / 8 := by omega
        refine ⟨⟨ones_nodup _ _, h3⟩, ?_⟩
        apply List.ext_getElem
        · rw [bytesN_length, hl]
        · intro j j1 j2
          have e0 : (bytesN n (val (ones t (8 * t.length))))[j] = UInt8.ofNat (cel (val (ones t (8 * t.length))) j) := by simp [bytesN]
          rw [e0]
          have e : cel (val (ones t (8 * t.length))) j = t[j].toNat := by
            apply Nat.eq_of_testBit_eq
            intro k
            rw [cel_bit, val_bit (ones_nodup _ _)]
            by_cases hk : k < 8
            · rw [decide_eq_true hk, Bool.true_and]
              have e2 : bt t (8 * j + k) = t[j].toNat.testBit k := by
                unfold bt
                rw [show (8 * j + k) / 8 = j by omega, show (8 * j + k) % 8 = k by omega]
                simp [List.getD, j2]
              rw [← e2]
              by_cases hb : bt t (8 * j + k) = true
              · rw [hb]
                exact decide_eq_true ((ones_mem _ _ _).2 ⟨by omega, hb⟩)
              · rw [Bool.not_eq_true] at hb
                rw [hb]
                exact decide_eq_false fun q => by rw [((ones_mem _ _ _).1 q).2] at hb; cases hb
            · rw [decide_eq_false hk, Bool.false_and]
              have hu := t[j].toNat_lt
              exact (Nat.testBit_lt_two_pow (Nat.lt_of_lt_of_le hu (Nat.pow_le_pow_right (by omega) (show 8 ≤ k by omega)))).symm
          rw [e]
          simp
      · rw [if_neg h3] at h; simp at h
/-- What is read as a set is just what the set is packed as. -/
theorem rd_one {s : List UInt8} {n : Nat} {G : List Nat} (h : rd s = (0, n, G)) : Ok n G ∧ n ≤ 1048576 ∧ pack n G = s := by
  unfold rd at h
  by_cases h1 : (Pl.rdCount s).2.2 ≠ 0
  · rw [if_pos h1] at h
    exact absurd (by injection h) h1
  · rw [if_neg h1] at h
    by_cases h2 : 1048576 < (Pl.rdCount s).1
    · rw [if_pos h2] at h; simp at h
    · rw [if_neg h2] at h
      obtain ⟨c, z, e, hr⟩ : ∃ c z e, Pl.rdCount s = (c, z, e) := ⟨_, _, _, rfl⟩
      rw [hr] at h h1 h2
      have he : e = 0 := by simpa using h1
      subst he
      obtain ⟨i1, i2⟩ := Iv.count_one s c z hr
      injection h with e1 e2
      injection e2 with e2 e3
      have ht : rdT c.toNat (s.drop z.toNat) = (0, G) := by
        rw [← e1, ← e3]
      obtain ⟨k1, k2⟩ := rdT_ok ht
      have hc : ((n : Nat) : Int) = c := by
        have : c.toNat = n := e2
        omega
      have h2' : ¬ 1048576 < c := h2
      subst e2
      refine ⟨k1, by show c.toNat ≤ _; omega, ?_⟩
      unfold pack
      rw [k2]
      have e4 : ((c.toNat : Nat) : Int) = c := by omega
      show Pl.numB ((c.toNat : Nat) : Int) ++ s.drop z.toNat = s
      rw [e4, i1, List.take_append_drop]
/-- What a set is packed as is read as the set. -/
theorem rd_back {n : Nat} {G : List Nat} (h : Ok n G) (hn : n ≤ 1048576) : ∃ H, rd (pack n G) = (0, n, H) ∧ Ok n H ∧ ∀ g, g ∈ H ↔ g ∈ G := by
  have hl := bytesN_length n (val G)
  have hb : ∀ p, bt (bytesN n (val G)) p = (decide (p < 8 * ((n + 7) / 8)) && decide (p ∈ G)) := fun p => by
    unfold bt
    by_cases hp : p / 8 < (n + 7) / 8
    · have e : (bytesN n (val G)).getD (p / 8) 0 = UInt8.ofNat (cel (val G) (p / 8)) := by
        unfold bytesN
        simp [List.getD, hp]
      have hc := cel_lt (val G) (p / 8)
      rw [e, show (UInt8.ofNat (cel (val G) (p / 8))).toNat = cel (val G) (p / 8) by simp; omega, cel_bit, decide_eq_true (show p % 8 < 8 by omega), Bool.true_and, val_bit h.nd, show 8 * (p / 8) + p % 8 = p by omega, decide_eq_true (show p < 8 * ((n + 7) / 8) by omega), Bool.true_and]
    · rw [show (bytesN n (val G)).getD (p / 8) 0 = 0 by simp [List.getD, List.getElem?_eq_none (show (bytesN n (val G)).length ≤ p / 8 by rw [hl]; omega)], decide_eq_false (show ¬ p < 8 * ((n + 7) / 8) by omega), Bool.false_and]
      simp
  refine ⟨ones (bytesN n (val G)) (8 * (bytesN n (val G)).length), ?_, ?_, ?_⟩
  · unfold rd pack
    have hc := Iv.count_back n (bytesN n (val G)) (by omega)
    rw [hc]
    simp only [ne_eq, not_true, if_false]
    rw [if_neg (by omega)]
    have e : ((Pl.numB (n : Int)) ++ bytesN n (val G)).drop (((Pl.numB (n : Int)).length : Int)).toNat = bytesN n (val G) := by
      rw [Int.toNat_natCast, List.drop_left]
    rw [e, Int.toNat_natCast]
    have hT : rdT n (bytesN n (val G)) = (0, ones (bytesN n (val G)) (8 * (bytesN n (val G)).length)) := by
      unfold rdT
      rw [if_neg (by rw [hl]; omega), if_neg (by rw [hl]; omega), if_pos]
      intro g hg
      have := ((ones_mem _ _ _).1 hg).2
      rw [hb] at this
      simp at this
      exact h.lt g this.2
    rw [hT]
  · refine ⟨ones_nodup _ _, fun g hg => ?_⟩
    have := ((ones_mem _ _ _).1 hg).2
    rw [hb] at this
    simp at this
    exact h.lt g this.2
  · intro g
    rw [ones_mem, hb, hl]
    constructor
    · intro q
      have := q.2
      simp at this
      exact this.2
    · intro q
      have := h.lt g q
      refine ⟨by omega, ?_⟩
      simp
      exact ⟨by omega, q⟩
end Go.Proofs.Ytoppgecajibelaa.Ls
