/-
  Sets plainly: which numbers are in, as a list and as bits of one number.
-/
import Derived.Test.YtoppgecajibelaaText
namespace Go.Proofs.Ytoppgecajibelaa.Ls
/-- A power of two added where its bit is not set. -/
theorem bit_add {x g : Nat} (h : x.testBit g = false) (j : Nat) : (x + 2 ^ g).testBit j = (decide (j = g) || x.testBit j) := by
  rw [Nat.add_comm]
  rcases Nat.lt_trichotomy j g with hj | hj | hj
  · rw [Nat.testBit_two_pow_add_gt hj, decide_eq_false (by omega), Bool.false_or]
  · subst hj
    rw [Nat.testBit_two_pow_add_eq, h, decide_eq_true rfl]
    rfl
  · obtain ⟨k, rfl⟩ : ∃ k, j = k + (g + 1) := ⟨j - (g + 1), by omega⟩
    have t : ∀ y : Nat, y.testBit (k + (g + 1)) = (y / 2 ^ (g + 1)).testBit k := fun y => (Nat.testBit_div_two_pow y k).symm
    rw [decide_eq_false (by omega), Bool.false_or, t, t]
    congr 1
    have e : x / 2 ^ g % 2 = 0 := by
      have h2 := h
      rw [Nat.testBit_eq_decide_div_mod_eq] at h2
      have := of_decide_eq_false h2
      omega
    rw [Nat.pow_succ, ← Nat.div_div_eq_div_mul, ← Nat.div_div_eq_div_mul, Nat.add_div_left _ (Nat.two_pow_pos g)]
    omega
def cel (V j : Nat) : Nat := V / 2 ^ (8 * j) % 256
theorem cel_lt (V j : Nat) : cel V j < 256 := Nat.mod_lt _ (by omega)
theorem cel_bit (V j k : Nat) : (cel V j).testBit k = (decide (k < 8) && V.testBit (8 * j + k)) := by
  unfold cel
  rw [show (256 : Nat) = 2 ^ 8 from rfl, Nat.testBit_mod_two_pow, Nat.testBit_div_two_pow, Nat.add_comm]
theorem cel_add {V d : Nat} (h : V.testBit d = false) (j : Nat) : cel (V + 2 ^ d) j = if j = d / 8 then cel V j + 2 ^ (d % 8) else cel V j := by
  by_cases hj : j = d / 8
  · rw [if_pos hj]
    have hr : (cel V j).testBit (d % 8) = false := by
      rw [cel_bit, show 8 * j + d % 8 = d by omega, h, Bool.and_false]
    apply Nat.eq_of_testBit_eq
    intro k
    rw [cel_bit, bit_add h, bit_add hr, cel_bit]
    by_cases hk : k < 8
    · rw [decide_eq_true hk, Bool.true_and, Bool.true_and]
      congr 1
      by_cases e : k = d % 8
      · rw [decide_eq_true e, decide_eq_true (by omega)]
      · rw [decide_eq_false e, decide_eq_false (by omega)]
    · rw [decide_eq_false hk, Bool.false_and, Bool.false_and, Bool.or_false, decide_eq_false (by omega)]
  · rw [if_neg hj]
    apply Nat.eq_of_testBit_eq
    intro k
    rw [cel_bit, cel_bit, bit_add h]
    by_cases hk : k < 8
    · rw [decide_eq_false (show ¬ 8 * j + k = d by omega), Bool.false_or]
    · rw [decide_eq_false hk, Bool.false_and, Bool.false_and]
/-- The number whose bits a list names. -/
def val : List Nat → Nat
  | [] => 0
  | g :: G => val G + 2 ^ g
theorem val_bit : ∀ {G : List Nat}, G.Nodup → ∀ j, (val G).testBit j = decide (j ∈ G)
  | [], _, j => by simp [val]
  | g :: G, h, j => by
    obtain ⟨h1, h2⟩ := List.nodup_cons.1 h
    have ih := val_bit h2
    show (val G + 2 ^ g).testBit j = _
    rw [bit_add (by rw [ih, decide_eq_false h1]), ih]
    by_cases e : j = g
    · subst e; simp
    · by_cases e2 : j ∈ G
      · simp [e, e2]
      · simp [e, e2]
theorem val_snoc : ∀ (G : List Nat) (d : Nat), val (G ++ [d]) = val G + 2 ^ d
  | [], d => by simp [val]
  | g :: G, d => by
    show val (G ++ [d]) + 2 ^ g = val G + 2 ^ g + 2 ^ d
    rw [val_snoc G d]
    omega
theorem val_perm {G H : List Nat} (hG : G.Nodup) (hH : H.Nodup) (h : ∀ j, j ∈ G ↔ j ∈ H) : val G = val H := by
  apply Nat.eq_of_testBit_eq
  intro j
  rw [val_bit hG, val_bit hH]
  simp [h]
theorem val_cel_top {n : Nat} {G : List Nat} (h : G.Nodup) (hn : ∀ g ∈ G, g < n) (j k : Nat) (hj : n ≤ 8 * j + k) : (val G).testBit (8 * j + k) = false := by
  rw [val_bit h, decide_eq_false]
  intro e
  have := hn _ e
  omega
/-- The bytes of the bits of so many numbers. -/
def bytesN (n V : Nat) : List UInt8 := (List.range ((n + 7) / 8)).map fun j => UInt8.ofNat (cel V j)
theorem bytesN_length (n V : Nat) : (bytesN n V).length = (n + 7) / 8 := by simp [bytesN]
/-- What a set is packed as. -/
def pack (n : Nat) (G : List Nat) : List UInt8 := Pl.numB n ++ bytesN n (val G)
structure Ok (n : Nat) (G : List Nat) : Prop where
  nd : G.Nodup
  lt : ∀ g ∈ G, g < n
theorem Ok.nil (n : Nat) : Ok n [] := ⟨List.nodup_nil, fun _ h => by cases h⟩
theorem Ok.snoc {n d : Nat} {G : List Nat} (h : Ok n G) (hd : d < n) (hG : d ∉ G) : Ok n (G ++ [d]) := by
  refine ⟨?_, fun g hg => ?_⟩
  · rw [List.nodup_append]
    exact ⟨h.nd, by simp, fun a ha b hb => by
      simp at hb
      subst hb
      exact fun e => hG (e ▸ ha)⟩
  · rcases List.mem_append.1 hg with q | q
    · exact h.lt g q
    · simp at q; subst q; exact hd
theorem len_le : ∀ (n : Nat) {G : List Nat}, Ok n G → G.length ≤ n
  | 0, G, h => by
    cases G with
    | nil => exact Nat.le_refl _
    | cons g G => exact absurd (h.lt g (List.mem_cons_self ..)) (Nat.not_lt_zero _)
  | n + 1, G, h => by
    by_cases hn : n ∈ G
    · have h2 := len_le n (G := G.erase n) ⟨h.nd.erase _, fun g hg => by
        have h3 := (h.nd.mem_erase_iff).1 hg
        have := h.lt g h3.2
        have := h3.1
        omega⟩
      have h4 := List.length_erase_of_mem hn
      omega
    · have h2 := len_le n (G := G) ⟨h.nd, fun g hg => by
        have := h.lt g hg
        have : g ≠ n := fun e => hn (e ▸ hg)
        omega⟩
      omega
theorem Ok.len {n : Nat} {G : List Nat} (h : Ok n G) : G.length ≤ n := len_le n h
/-- Whether a document lives. -/
def lv (n : Nat) (G : List Nat) (d : Int) : Bool := decide (0 ≤ d ∧ d < n ∧ d.toNat ∉ G)
def kill (n : Nat) (G : List Nat) (d : Int) : List Nat := if lv n G d = true then G ++ [d.toNat] else G
theorem kill_ok {n : Nat} {G : List Nat} (h : Ok n G) (d : Int) : Ok n (kill n G d) := by
  unfold kill
  split
  · rename_i q
    unfold lv at q
    have := of_decide_eq_true q
    exact h.snoc (by omega) this.2.2
  · exact h
end Go.Proofs.Ytoppgecajibelaa.Ls
