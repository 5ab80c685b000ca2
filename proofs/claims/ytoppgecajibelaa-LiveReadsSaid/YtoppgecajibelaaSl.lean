/-
  A packed set is read back, document by document: how many live, what stands behind.
-/
import Derived.Test.YtoppgecajibelaaSk
namespace Go.Proofs.Ytoppgecajibelaa.Ls
theorem nodup_len : ∀ {G H : List Nat}, G.Nodup → (∀ g ∈ G, g ∈ H) → G.length ≤ H.length
  | [], _, _, _ => Nat.zero_le _
  | g :: G, H, h, hs => by
    obtain ⟨h1, h2⟩ := List.nodup_cons.1 h
    have hg := hs g (List.mem_cons_self ..)
    have h3 := nodup_len (H := H.erase g) h2 fun a ha => (List.mem_erase_of_ne (show a ≠ g from fun e => h1 (e ▸ ha))).2 (hs a (List.mem_cons_of_mem _ ha))
    have h4 := List.length_erase_of_mem hg
    have h5 : 0 < H.length := List.length_pos_of_mem hg
    simp only [List.length_cons]
    omega
theorem same_len {G H : List Nat} (hG : G.Nodup) (hH : H.Nodup) (h : ∀ g, g ∈ H ↔ g ∈ G) : H.length = G.length :=
  Nat.le_antisymm (nodup_len hH fun g hg => (h g).1 hg) (nodup_len hG fun g hg => (h g).2 hg)
/-- How many of the first so many live. -/
def cnt (n : Nat) (G : List Nat) (j : Nat) : Nat := ((List.range j).filter fun i : Nat => lv n G (i : Int)).length
theorem cnt_succ (n : Nat) (G : List Nat) (j : Nat) : cnt n G (j + 1) = cnt n G j + if lv n G (j : Int) = true then 1 else 0 := by
  unfold cnt
  rw [List.range_succ, List.filter_append, List.length_append]
  by_cases h : lv n G (j : Int) = true
  · simp [h]
  · simp [h]
theorem cnt_le (n : Nat) (G : List Nat) (j : Nat) : cnt n G j ≤ j := by
  unfold cnt
  have := List.length_filter_le (fun i : Nat => lv n G (i : Int)) (List.range j)
  simpa using this
theorem lv_nat (n : Nat) (G : List Nat) (i : Nat) : lv n G (i : Int) = decide (i < n ∧ i ∉ G) := by
  unfold lv
  rw [decide_eq_decide, Int.toNat_natCast]
  constructor
  · rintro ⟨_, h1, h2⟩; exact ⟨by omega, h2⟩
  · rintro ⟨h1, h2⟩; exact ⟨by omega, by omega, h2⟩
theorem cnt_all {n : Nat} {G : List Nat} (h : Ok n G) : cnt n G (n + 1) + G.length = n := by
  rw [cnt_succ, lv_nat, decide_eq_false (by omega)]
  simp only [Bool.false_eq_true, if_false, Nat.add_zero]
  have e1 : ((List.range n).filter fun i => decide (i ∈ G)).length = G.length :=
    same_len h.nd (List.nodup_range.filter _) fun g => by
      rw [List.mem_filter, List.mem_range]
      constructor
      · intro q; simpa using q.2
      · intro q; exact ⟨h.lt g q, by simpa using q⟩
  have e2 : cnt n G n = ((List.range n).filter fun i => !decide (i ∈ G)).length := by
    unfold cnt
    congr 1
    apply List.filter_congr
    intro i hi
    have := List.mem_range.1 hi
    rw [lv_nat]
    by_cases q : i ∈ G
    · simp [q]
    · simp [q, this]
  have e3 : ∀ L : List Nat, (L.filter fun i => !decide (i ∈ G)).length + (L.filter fun i => decide (i ∈ G)).length = L.length := by
    intro L
    induction L with
    | nil => rfl
    | cons a L ih =>
      by_cases q : a ∈ G
      · rw [List.filter_cons_of_neg (by simp [q]), List.filter_cons_of_pos (by simp [q])]
        simp only [List.length_cons]
        omega
      · rw [List.filter_cons_of_pos (by simp [q]), List.filter_cons_of_neg (by simp [q])]
        simp only [List.length_cons]
        omega
  have e4 := e3 (List.range n)
  rw [List.length_range] at e4
  omega
theorem lv_same {n : Nat} {G H : List Nat} (h : ∀ g, g ∈ H ↔ g ∈ G) (d : Int) : lv n H d = lv n G d := by
  unfold lv
  rw [decide_eq_decide, h]
theorem rd_tail {n : Nat} {G : List Nat} (_ : Ok n G) (hn : n ≤ 1048576) (r : List UInt8) (hr : r ≠ []) : (rd (pack n G ++ r)).1 = 5 := by
  unfold rd pack
  have hc := Iv.count_back n (bytesN n (val G) ++ r) (by omega)
  rw [List.append_assoc, hc]
  simp only [ne_eq, not_true, if_false]
  rw [if_neg (by omega)]
  have e : ((Pl.numB (n : Int)) ++ (bytesN n (val G) ++ r)).drop (((Pl.numB (n : Int)).length : Int)).toNat = bytesN n (val G) ++ r := by
    rw [Int.toNat_natCast, List.drop_left]
  rw [e, Int.toNat_natCast]
  show (rdT n (bytesN n (val G) ++ r)).1 = 5
  have hl := bytesN_length n (val G)
  have hp : 0 < r.length := List.length_pos_iff.2 hr
  unfold rdT
  rw [List.length_append, hl, if_neg (by omega), if_pos (by omega)]
theorem pack_len (n : Nat) (G : List Nat) : (pack n G).length ≤ 9 + (n + 7) / 8 := by
  unfold pack
  rw [List.length_append, bytesN_length]
  have := numB_length (n : Int)
  omega
end Go.Proofs.Ytoppgecajibelaa.Ls
