/-
  The given package: the number of a text.
-/
import Derived.Test.YthlbeehlcgnggaaRx
import Derived.Test.YthlbeehlcgnggaaRd
import Derived.Test.YthlbeehlcgnggaaRr
namespace Go.Proofs.Ythlbeehlcgnggaa
open Go.RowKit

theorem first_of {s : ByteArray} (h : 0 < s.size) {c : UInt8} {t : List UInt8} (e : s.data.toList = c :: t) : s[0] = c := by
  have hl : 0 < s.data.toList.length := by rw [Array.length_toList]; exact h
  have h1 : s[0] = s.data.toList[0] := rfl
  rw [h1]
  simp [e]

/-- What the given package finds of a text with no sign. -/
def RefBody (t : ByteArray) (K X : Nat) : Prop :=
  (K = 0 ∧ Rf.size t.data.toList = .none) ∨
  (0 < K ∧ K = t.size ∧ Rf.size t.data.toList = some (X, 1)) ∨
  (0 < K ∧ K < t.size ∧ ∃ (t2 u : ByteArray) (h0 : 0 < t2.size) (M Y : Nat), t.extract K t.size = t2 ∧ t2.extract 1 t2.size = u ∧ t2.size + K = t.size ∧
    (∀ W, Calls Try.prog 27 #[.string u, .int .i64 3] W fun e w' => e = .returned (.tuple #[.int .i64 M, .int .u64 Y]) ∧ w' = W) ∧ M ≤ 3 ∧ Y < 1000 ∧
    ((((t2[0].toNat : Int) != 46) = true ∨ ((t2[0].toNat : Int) != 46) = false ∧ (M = 0 ∨ 0 < M ∧ M + 1 ≠ t2.size)) ∧ Rf.size t.data.toList = .none ∨
      ((t2[0].toNat : Int) != 46) = false ∧ 0 < M ∧ M + 1 = t2.size ∧ Rf.size t.data.toList = some (X * 10 ^ M + Y, 10 ^ M)))

theorem ref_body (t : ByteArray) (ht : t.size ≤ 9223372036854775806) : ∃ K X : Nat, (∀ W, Calls Try.prog 27 #[.string t, .int .i64 12] W fun e w' => e = .returned (.tuple #[.int .i64 K, .int .u64 X]) ∧ w' = W) ∧ K ≤ t.size ∧ X < 1000000000000 ∧ RefBody t K X := by
  have hlen : t.data.toList.length = t.size := Array.length_toList
  have hle := Rf.lead_le 12 t.data.toList
  have hdg := Rf.lead_digits 12 t.data.toList
  have hX := Rf.dec_lt _ hdg
  rw [List.length_take, Nat.min_eq_left hle.2] at hX
  have hX2 : Rf.dec 0 (t.data.toList.take (Rf.lead 12 t.data.toList)) < 1000000000000 := Nat.lt_of_lt_of_le hX (Nat.le_trans (Nat.pow_le_pow_right (by decide) hle.1) (by decide))
  refine ⟨Rf.lead 12 t.data.toList, Rf.dec 0 (t.data.toList.take (Rf.lead 12 t.data.toList)), fun W => digits_any t ht 12 (by decide) W, by omega, hX2, ?_⟩
  have hr := Rf.ref_size t.data.toList
  unfold Rf.refSize at hr
  unfold RefBody
  rw [← hr]
  generalize hX : Rf.dec 0 (t.data.toList.take (Rf.lead 12 t.data.toList)) = X at *
  generalize Rf.lead 12 t.data.toList = K at *
  by_cases h0 : K = 0
  · exact .inl ⟨h0, by rw [if_pos h0]⟩
  right
  rw [if_neg h0]
  by_cases hK : K = t.size
  · left
    refine ⟨by omega, hK, ?_⟩
    have : t.data.toList.drop K = [] := List.drop_of_length_le (by omega)
    rw [this]
  right
  have hlt : K < t.size := by omega
  refine ⟨by omega, hlt, ?_⟩
  obtain ⟨t2, ht2⟩ : ∃ t2, t.extract K t.size = t2 := ⟨_, rfl⟩
  have e2 : t2.data.toList = t.data.toList.drop K := by rw [← ht2]; exact extract_drop t K
  have l2 : t2.data.toList.length = t2.size := Array.length_toList
  have hs2 : t2.size + K = t.size := by
    rw [e2, List.length_drop] at l2
    omega
  have h2 : 0 < t2.size := by omega
  obtain ⟨u, hu⟩ : ∃ u, t2.extract 1 t2.size = u := ⟨_, rfl⟩
  have eu : u.data.toList = t2.data.toList.drop 1 := by rw [← hu]; exact extract_drop t2 1
  have lu : u.data.toList.length = u.size := Array.length_toList
  have hsu : u.size + 1 = t2.size := by
    rw [eu, List.length_drop] at lu
    omega
  rw [← e2]
  obtain ⟨c, r, hcr⟩ : ∃ c r, t2.data.toList = c :: r := by
    cases h : t2.data.toList with
    | nil => rw [h] at l2; simp at l2; omega
    | cons c r => exact ⟨c, r, rfl⟩
  have hc0 := first_of h2 hcr
  rw [hcr, List.drop_one, List.tail_cons] at eu
  rw [hcr]
  have hlu : r.length = u.size := by rw [← lu, eu]
  have hl3 := Rf.lead_le 3 r
  have hdg3 := Rf.lead_digits 3 r
  have hY := Rf.dec_lt _ hdg3
  rw [List.length_take, Nat.min_eq_left hl3.2] at hY
  have hY2 : Rf.dec 0 (r.take (Rf.lead 3 r)) < 1000 := Nat.lt_of_lt_of_le hY (Nat.le_trans (Nat.pow_le_pow_right (by decide) hl3.1) (by decide))
  refine ⟨t2, u, h2, Rf.lead 3 r, Rf.dec 0 (r.take (Rf.lead 3 r)), ht2, hu, hs2, fun W => ?_, hl3.1, hY2, ?_⟩
  · have h := digits_any u (by omega) 3 (by decide) W
    rw [eu] at h
    exact h
  have hcn : ((t2[0].toNat : Int) != 46) = decide (c ≠ 46) := by
    rw [hc0]
    by_cases h : c = 46
    · subst h; rfl
    · rw [decide_eq_true h]
      have : c.toNat ≠ 46 := fun e => h (by rw [← UInt8.ofNat_toNat (x := c), e]; rfl)
      exact bne_iff_ne.2 (by omega)
  rw [hcn]
  dsimp only
  by_cases hbad : c ≠ 46 ∨ Rf.lead 3 r = 0 ∨ Rf.lead 3 r ≠ r.length
  · left
    refine ⟨?_, by rw [if_pos hbad]⟩
    by_cases hc : c = 46
    · right
      refine ⟨decide_eq_false (by simp [hc]), ?_⟩
      rcases hbad with h | h | h
      · exact absurd hc h
      · exact .inl h
      · by_cases h0 : Rf.lead 3 r = 0
        · exact .inl h0
        · exact .inr ⟨by omega, by omega⟩
    · exact .inl (decide_eq_true hc)
  · right
    have hb1 : ¬ c ≠ 46 := fun h => hbad (.inl h)
    have hb2 : ¬ Rf.lead 3 r = 0 := fun h => hbad (.inr (.inl h))
    have hb3 : ¬ Rf.lead 3 r ≠ r.length := fun h => hbad (.inr (.inr h))
    refine ⟨decide_eq_false hb1, by omega, by omega, ?_⟩
    rw [if_neg hbad]
    have : r.take (Rf.lead 3 r) = r := List.take_of_length_le (by omega)
    rw [this]

end Go.Proofs.Ythlbeehlcgnggaa
