/-
  What holds of sealing and opening: opened as itself; as of another kind, cut short, with more behind it, with one byte turned it is refused. No program is named here.
-/
import Derived.Test.YtmflmckmamckfaaOpen
namespace Go.Proofs.Ytmflmckmamckfaa.Hd
open Go.RowKit

theorem bhG_self : ∀ h r : List UInt8, bhG h (h ++ r) = (r, 0) := by
  intro h
  induction h with
  | nil => intro r; rfl
  | cons c h ih => intro r; simp only [List.cons_append, bhG, if_true]; exact ih r
theorem bhG_cut : ∀ (h r : List UInt8) (c : Nat), c < h.length → bhG h ((h ++ r).take c) = ([], 2) := by
  intro h
  induction h with
  | nil => intro r c hc; simp at hc
  | cons a h ih =>
    intro r c hc
    cases c with
    | zero => rfl
    | succ c =>
      simp only [List.cons_append, List.take_succ_cons, bhG, if_true]
      exact ih r c (by simpa using hc)
theorem bhG_other (k j : Nat) (hk : k ≤ 255) (hj : j ≤ 255) (h : j ≠ k) (r : List UInt8) : bhG (headB j) (headB k ++ r) = ([], 3) := by
  have hne : ¬ UInt8.ofNat k = UInt8.ofNat j := by
    intro e
    have := congrArg UInt8.toNat e
    simp only [UInt8.toNat_ofNat'] at this
    omega
  simp only [headB, List.cons_append, List.nil_append, bhG, if_true, hne, if_false]
theorem seal_form (k : Nat) (l : List UInt8) : sealB k l = headB k ++ (blockB l ++ tailB (headB k ++ blockB l)) := by
  unfold sealB
  rw [List.append_assoc]
/-- An answer that is no error's alone bears a text. -/
theorem open_none (k : Nat) (b : List UInt8) (h : (openB k b).2 ≠ 0) : (openB k b).1 = [] := by
  unfold openB at *
  split
  · rfl
  · rename_i h1
    rw [if_neg h1] at h
    split
    · rfl
    · rename_i h2
      rw [if_neg h2] at h
      split
      · rfl
      · rename_i h3
        rw [if_neg h3] at h
        exact absurd rfl h
theorem open_ahead (k : Nat) (r t : List UInt8) (z e : Int) (h : Pl.rdBlock r = (t, z, e)) :
    openB k (headB k ++ r) = if e ≠ 0 then ([], e) else if ctB (headB k ++ r) (r.drop z.toNat) ≠ 0 then ([], ctB (headB k ++ r) (r.drop z.toNat)) else (t, 0) := by
  unfold openB
  rw [bhG_self, h]
  simp

/-- What was sealed is opened as itself. -/
theorem open_seal (k : Nat) (l : List UInt8) (hl : l.length ≤ 9223372036854775807) : openB k (sealB k l) = (l, 0) := by
  rw [seal_form]
  have h := Iv.block_back l (tailB (headB k ++ blockB l)) hl
  rw [open_ahead k _ _ _ _ h]
  rw [if_neg (by simp)]
  have hd : (blockB l ++ tailB (headB k ++ blockB l)).drop (((blockB l).length : Nat) : Int).toNat = tailB (headB k ++ blockB l) := by simp
  rw [hd]
  have hc : ctB (headB k ++ (blockB l ++ tailB (headB k ++ blockB l))) (tailB (headB k ++ blockB l)) = 0 := by
    unfold ctB
    rw [tailB_length, if_neg (by omega), if_neg (by omega)]
    have : (headB k ++ (blockB l ++ tailB (headB k ++ blockB l))).take ((headB k ++ (blockB l ++ tailB (headB k ++ blockB l))).length - 4) = headB k ++ blockB l := by
      rw [← List.append_assoc, List.length_append, tailB_length, Nat.add_sub_cancel, List.take_left']
      rfl
    rw [this, if_pos rfl]
  rw [hc]
  simp
/-- As of another kind it is refused. -/
theorem open_other (k j : Nat) (hk : k ≤ 255) (hj : j ≤ 255) (h : j ≠ k) (l : List UInt8) : openB j (sealB k l) = ([], 3) := by
  rw [seal_form]
  unfold openB
  rw [bhG_other k j hk hj h]
  simp
/-- With bytes behind it something is left over. -/
theorem open_more (k : Nat) (l m : List UInt8) (hl : l.length ≤ 9223372036854775807) (hm : m ≠ []) : openB k (sealB k l ++ m) = ([], 5) := by
  rw [seal_form, List.append_assoc, List.append_assoc]
  have h := Iv.block_back l (tailB (headB k ++ blockB l) ++ m) hl
  rw [open_ahead k _ _ _ _ h]
  rw [if_neg (by simp)]
  have hd : (blockB l ++ (tailB (headB k ++ blockB l) ++ m)).drop (((blockB l).length : Nat) : Int).toNat = tailB (headB k ++ blockB l) ++ m := by simp
  rw [hd]
  have hpos : 0 < m.length := List.length_pos_iff.2 hm
  have hc : ∀ b, ctB b (tailB (headB k ++ blockB l) ++ m) = 5 := by
    intro b
    unfold ctB
    rw [List.length_append, tailB_length, if_neg (by omega), if_pos (by omega)]
  rw [hc]
  simp

/-- A number cut short. -/
theorem num_short (n : Nat) (h1 : n ≤ 9223372036854775807) (c : Nat) (hc : c < (Pl.numB n).length) : Pl.rdCount ((Pl.numB n).take c) = (0, 0, 2) := by
  have hm : Pl.mag (n : Int) = n ∧ Pl.sgn (n : Int) = 0 := by
    have := Od.mag_nn (a := (n : Int)) (by omega)
    simpa using this
  have : Pl.rdNum ((Pl.numB n).take c) = (0, 0, 2) := by
    cases c with
    | zero => rfl
    | succ c =>
      by_cases hn : Pl.mag (n : Int) < 112
      · rw [Od.numB_near hn] at hc
        simp at hc
      · rw [Od.numB_long hn] at hc ⊢
        rw [hm.1] at hn hc ⊢
        rw [hm.2] at hc ⊢
        have hw := Pl.wid_le (n - 112)
        rw [List.length_cons, be_length] at hc
        have hx : (UInt8.ofNat ((239 + Pl.wid (n - 112)) ^^^ 0)).toNat = 239 + Pl.wid (n - 112) := Od.hd0 _ (by omega)
        have hf : Pl.flipOf (UInt8.ofNat ((239 + Pl.wid (n - 112)) ^^^ 0)) = 0 := by
          unfold Pl.flipOf
          rw [hx, if_neg (by omega)]
        rw [List.take_succ_cons, Iv.rdNum_wide _ _ (by rw [hf, Nat.xor_zero, hx]; omega), hf]
        unfold Pl.rdWide
        rw [Nat.xor_zero, hx, if_neg (by omega), if_pos (by rw [List.length_take, be_length]; omega)]
        simp [Pl.back]
  unfold Pl.rdCount
  rw [this]
  simp
/-- A block cut short. -/
theorem block_short (l : List UInt8) (hl : l.length ≤ 9223372036854775807) (c : Nat) (hc : c < (blockB l).length) : Pl.rdBlock ((blockB l).take c) = ([], 0, 2) := by
  unfold blockB at *
  by_cases h : c < (Pl.numB l.length).length
  · rw [List.take_append_of_le_length (by omega)]
    unfold Pl.rdBlock
    rw [num_short l.length hl c h]
    simp
  · rw [List.length_append] at hc
    obtain ⟨d, rfl⟩ : ∃ d, c = (Pl.numB l.length).length + d := ⟨c - (Pl.numB l.length).length, by omega⟩
    rw [List.take_length_add_append]
    unfold Pl.rdBlock
    rw [Iv.count_back l.length _ hl]
    simp only [ne_eq, not_true, if_false]
    rw [if_pos (by rw [List.length_append, List.length_take]; omega)]
/-- Cut short anywhere it is too short. -/
theorem open_cut (k : Nat) (l : List UInt8) (hl : l.length ≤ 9223372036854775807) (c : Nat) (hc : c < (sealB k l).length) : openB k ((sealB k l).take c) = ([], 2) := by
  rw [seal_form] at *
  by_cases h4 : c < 4
  · unfold openB
    rw [bhG_cut _ _ c (by rw [headB_length]; exact h4)]
    simp
  · obtain ⟨d, rfl⟩ : ∃ d, c = (headB k).length + d := ⟨c - 4, by rw [headB_length]; omega⟩
    rw [List.take_length_add_append]
    rw [List.length_append, List.length_append, tailB_length] at hc
    by_cases hd : d < (blockB l).length
    · rw [List.take_append_of_le_length (by omega), open_ahead k _ _ _ _ (block_short l hl d hd), if_pos (by omega)]
    · obtain ⟨f, rfl⟩ : ∃ f, d = (blockB l).length + f := ⟨d - (blockB l).length, by omega⟩
      rw [List.take_length_add_append]
      have h := Iv.block_back l ((tailB (headB k ++ blockB l)).take f) hl
      rw [open_ahead k _ _ _ _ h]
      rw [if_neg (by simp)]
      have hdr : (blockB l ++ (tailB (headB k ++ blockB l)).take f).drop (((blockB l).length : Nat) : Int).toNat = (tailB (headB k ++ blockB l)).take f := by simp
      rw [hdr]
      have hc2 : ∀ b, ctB b ((tailB (headB k ++ blockB l)).take f) = 2 := by
        intro b
        unfold ctB
        rw [List.length_take, tailB_length, if_pos (by omega)]
      rw [hc2]
      simp

/-- What is opened ends with the checksum of what is ahead. -/
theorem open_ends (k : Nat) (b : List UInt8) (h : (openB k b).2 = 0) : 4 ≤ b.length ∧ b.drop (b.length - 4) = tailB (b.take (b.length - 4)) := by
  obtain ⟨t1, e1, h1⟩ : ∃ t1 e1, bhG (headB k) b = (t1, e1) := ⟨_, _, rfl⟩
  have hsuf : ∀ (h l t : List UInt8), bhG h l = (t, 0) → ∃ m, t = l.drop m := by
    intro h
    induction h with
    | nil =>
      intro l t hb
      obtain rfl : l = t := by simpa [bhG] using hb
      exact ⟨0, rfl⟩
    | cons a h ih =>
      intro l t hb
      cases l with
      | nil => simp [bhG] at hb
      | cons c l =>
        simp only [bhG] at hb
        by_cases hc : c = a
        · rw [if_pos hc] at hb
          obtain ⟨m, hm⟩ := ih l t hb
          exact ⟨m + 1, hm⟩
        · rw [if_neg hc] at hb
          simp at hb
  unfold openB at h
  rw [h1] at h
  by_cases he1 : e1 = 0
  · subst he1
    rw [if_neg (by simp)] at h
    obtain ⟨m, rfl⟩ := hsuf _ _ _ h1
    by_cases he2 : (Pl.rdBlock (b.drop m)).2.2 = 0
    · rw [if_neg (by simpa using he2)] at h
      by_cases he3 : ctB b ((b.drop m).drop (Pl.rdBlock (b.drop m)).2.1.toNat) = 0
      · clear h
        rw [List.drop_drop] at he3
        generalize m + (Pl.rdBlock (b.drop m)).2.1.toNat = q at he3
        unfold ctB at he3
        rw [List.length_drop] at he3
        by_cases c1 : b.length - q < 4
        · rw [if_pos c1] at he3; omega
        · rw [if_neg c1] at he3
          by_cases c2 : 4 < b.length - q
          · rw [if_pos c2] at he3; omega
          · rw [if_neg c2] at he3
            have hq : q = b.length - 4 := by omega
            subst hq
            refine ⟨by omega, ?_⟩
            by_cases c3 : b.drop (b.length - 4) = tailB (b.take (b.length - 4))
            · exact c3
            · rw [if_neg c3] at he3; omega
      · rw [if_pos he3] at h
        exact absurd h he3
    · rw [if_pos he2] at h
      exact absurd h he2
  · rw [if_pos he1] at h
    exact absurd h he1
/-- With one byte turned it is refused. -/
theorem open_turn (k : Nat) (l l1 l2 : List UInt8) (c d : UInt8) (hs : sealB k l = l1 ++ c :: l2) (hcd : c ≠ d) : (openB k (l1 ++ d :: l2)).2 ≠ 0 := by
  intro h
  obtain ⟨h4, he⟩ := open_ends k _ h
  clear h
  unfold sealB at hs
  generalize headB k ++ blockB l = X at hs
  have hlen : X.length + 4 = l1.length + (l2.length + 1) := by
    have := congrArg List.length hs
    simp only [List.length_append, List.length_cons, tailB_length] at this
    exact this
  have hL : (l1 ++ d :: l2).length - 4 = X.length := by
    simp only [List.length_append, List.length_cons]
    omega
  rw [hL] at he
  have hX : X = (l1 ++ c :: l2).take X.length := by rw [← hs]; simp
  have hT : tailB X = (l1 ++ c :: l2).drop X.length := by rw [← hs]; simp
  by_cases hlt : l1.length < X.length
  · obtain ⟨m, hm⟩ : ∃ m, X.length = l1.length + (m + 1) := ⟨X.length - l1.length - 1, by omega⟩
    have e1 : ∀ a : UInt8, (l1 ++ a :: l2).take (l1.length + (m + 1)) = l1 ++ a :: l2.take m := by
      intro a
      rw [List.take_length_add_append, List.take_succ_cons]
    have e2 : ∀ a : UInt8, (l1 ++ a :: l2).drop (l1.length + (m + 1)) = l2.drop m := by
      intro a
      rw [List.drop_length_add_append, List.drop_succ_cons]
    rw [hm, e1, e2] at he
    rw [hm] at hX hT
    rw [e1] at hX
    rw [e2, hX] at hT
    rw [← hT] at he
    exact hcd (Pl.crc_turn l1 (l2.take m) c d (Pl.le4_inj (Pl.crc_lt _) (Pl.crc_lt _) he))
  · obtain ⟨m, hm⟩ : ∃ m, l1.length = X.length + m := ⟨l1.length - X.length, by omega⟩
    have e1 : ∀ r : List UInt8, (l1 ++ r).take X.length = l1.take X.length := by
      intro r
      rw [List.take_append_of_le_length (by omega)]
    have e2 : ∀ r : List UInt8, (l1 ++ r).drop X.length = l1.drop X.length ++ r := by
      intro r
      rw [List.drop_append_of_le_length (by omega)]
    rw [e1, e2] at he
    rw [e1] at hX
    rw [e2] at hT
    rw [← hX] at he
    have := List.append_cancel_left (he.trans hT)
    simp at this
    exact hcd this.symm
end Go.Proofs.Ytmflmckmamckfaa.Hd
