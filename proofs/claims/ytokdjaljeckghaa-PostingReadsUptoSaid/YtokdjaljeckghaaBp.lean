/-
  The plain mathematics of numbers packed in blocks: widths, bytes, what is read back; no program is named here.
-/
import Derived.Test.YtokdjaljeckghaaPlain
import Derived.Test.YtokdjaljeckghaaInv
import Derived.Test.YtokdjaljeckghaaCrc
namespace Go.Proofs.Ytokdjaljeckghaa.Bp
open Go.Proofs.Ytokdjaljeckghaa (be_length)

theorem len_iff (x k : Nat) (hk : k < 64) : Go.Lib.bitLen x ≤ k ↔ x < 2 ^ k := Pl.bitLenAux_iff 64 x k hk

/-- The width: the least number of bits that holds each. -/
def wd : List Nat → Nat
  | [] => 0
  | x :: t => Nat.max (Go.Lib.bitLen x) (wd t)
theorem wd_iff (l : List Nat) (k : Nat) (hk : k < 64) : wd l ≤ k ↔ ∀ x ∈ l, x < 2 ^ k := by
  induction l with
  | nil => simp [wd]
  | cons x t ih =>
    have h := len_iff x k hk
    simp only [wd, Nat.max_def, List.mem_cons, forall_eq_or_imp]
    rw [← ih, ← h]
    split <;> omega
theorem wd_le (l : List Nat) : wd l ≤ 64 := by
  induction l with
  | nil => simp [wd]
  | cons x t ih =>
    have := Pl.bitLen_le x
    simp only [wd, Nat.max_def]
    split <;> omega
theorem wd_lt (l : List Nat) (h : ∀ x ∈ l, x < 9223372036854775808) : wd l ≤ 63 := (wd_iff l 63 (by omega)).2 (by simpa using h)
theorem wd_mem (l : List Nat) (h : ∀ x ∈ l, x < 9223372036854775808) : ∀ x ∈ l, x < 2 ^ wd l := (wd_iff l (wd l) (by have := wd_lt l h; omega)).1 (Nat.le_refl _)
theorem wd_snoc (l : List Nat) (x : Nat) : wd (l ++ [x]) = Nat.max (wd l) (Go.Lib.bitLen x) := by
  induction l with
  | nil => simp [wd]
  | cons y t ih =>
    simp only [List.cons_append, wd, ih, Nat.max_def]
    repeat' split
    all_goals omega

/-- Numbers one behind the other, each in so many bits, the lowest first: one number. -/
def pk (w : Nat) : List Nat → Nat
  | [] => 0
  | x :: t => x + 2 ^ w * pk w t
def unpk (w : Nat) : Nat → Nat → List Nat
  | 0, _ => []
  | m + 1, V => V % 2 ^ w :: unpk w m (V / 2 ^ w)
theorem unpk_length (w m : Nat) : ∀ V, (unpk w m V).length = m := by
  induction m with
  | zero => intro V; rfl
  | succ m ih => intro V; simp only [unpk, List.length_cons, ih]
theorem unpk_lt (w m : Nat) : ∀ V, ∀ x ∈ unpk w m V, x < 2 ^ w := by
  induction m with
  | zero => intro V x hx; cases hx
  | succ m ih =>
    intro V x hx
    simp only [unpk, List.mem_cons] at hx
    rcases hx with rfl | hx
    · exact Nat.mod_lt _ (Nat.two_pow_pos w)
    · exact ih _ x hx
theorem pk_lt (w : Nat) (l : List Nat) (h : ∀ x ∈ l, x < 2 ^ w) : pk w l < 2 ^ (w * l.length) := by
  induction l with
  | nil => simp [pk]
  | cons x t ih =>
    have hx := h x (List.mem_cons_self ..)
    have ht := ih (fun y hy => h y (List.mem_cons_of_mem _ hy))
    simp only [pk, List.length_cons]
    rw [Nat.mul_succ, Nat.pow_add, Nat.mul_comm (2 ^ (w * t.length))]
    have : 2 ^ w * (pk w t + 1) ≤ 2 ^ w * 2 ^ (w * t.length) := Nat.mul_le_mul_left _ ht
    rw [Nat.mul_add] at this
    omega
theorem unpk_pk (w : Nat) (l : List Nat) (h : ∀ x ∈ l, x < 2 ^ w) : unpk w l.length (pk w l) = l := by
  induction l with
  | nil => rfl
  | cons x t ih =>
    have hx := h x (List.mem_cons_self ..)
    simp only [List.length_cons, unpk, pk]
    rw [Nat.add_mul_mod_self_left, Nat.mod_eq_of_lt hx, Nat.add_mul_div_left _ _ (Nat.two_pow_pos w), Nat.div_eq_of_lt hx, Nat.zero_add, ih (fun y hy => h y (List.mem_cons_of_mem _ hy))]
theorem pk_unpk (w m : Nat) : ∀ V, pk w (unpk w m V) = V % 2 ^ (w * m) := by
  induction m with
  | zero => intro V; simp [unpk, pk, Nat.mod_one]
  | succ m ih =>
    intro V
    simp only [unpk, pk]
    rw [ih, Nat.mul_succ, Nat.add_comm (w * m), Nat.pow_add, Nat.mod_mul]
/-- The number at a place. -/
theorem unpk_get (w m : Nat) : ∀ V i (h : i < (unpk w m V).length), (unpk w m V)[i] = V / 2 ^ (w * i) % 2 ^ w := by
  induction m with
  | zero => intro V i h; simp [unpk] at h
  | succ m ih =>
    intro V i h
    cases i with
    | zero => simp [unpk]
    | succ i =>
      simp only [unpk, List.getElem_cons_succ]
      rw [ih, Nat.mul_succ, Nat.add_comm (w * i), Nat.pow_add, Nat.div_div_eq_div_mul]

/-- So many bytes of a number, the lowest first. -/
def leB : Nat → Nat → List UInt8
  | 0, _ => []
  | k + 1, V => UInt8.ofNat (V % 256) :: leB k (V / 256)
theorem leB_length (k : Nat) : ∀ V, (leB k V).length = k := by
  induction k with
  | zero => intro V; rfl
  | succ k ih => intro V; simp only [leB, List.length_cons, ih]
theorem leB_num (l : List UInt8) : leB l.length (Pl.num l) = l := by
  induction l with
  | nil => rfl
  | cons c t ih =>
    have hc := c.toNat_lt
    simp only [List.length_cons, leB, Pl.num]
    rw [show (c.toNat + 256 * Pl.num t) % 256 = c.toNat from by omega, show (c.toNat + 256 * Pl.num t) / 256 = Pl.num t from by omega, ih, UInt8.ofNat_toNat]
theorem num_leB (k : Nat) : ∀ V, Pl.num (leB k V) = V % 256 ^ k := by
  induction k with
  | zero => intro V; simp [leB, Pl.num, Nat.mod_one]
  | succ k ih =>
    intro V
    have h : (UInt8.ofNat (V % 256)).toNat = V % 256 := by rw [UInt8.toNat_ofNat']; omega
    simp only [leB, Pl.num]
    rw [ih, h, Nat.pow_succ, Nat.mul_comm (256 ^ k), Nat.mod_mul]
theorem leB_snoc (k : Nat) : ∀ V, leB (k + 1) V = leB k V ++ [UInt8.ofNat (V / 256 ^ k % 256)] := by
  induction k with
  | zero => intro V; simp [leB]
  | succ k ih =>
    intro V
    show UInt8.ofNat (V % 256) :: leB (k + 1) (V / 256) = _
    rw [ih, Nat.pow_succ, Nat.mul_comm (256 ^ k), ← Nat.div_div_eq_div_mul]
    rfl

/-- The bytes behind a width. -/
def long (w m : Nat) : Nat := (w * m + 7) / 8
theorem long_bits (w m : Nat) : 2 ^ (w * m) ≤ 256 ^ long w m := by
  rw [show (256 : Nat) = 2 ^ 8 from rfl, ← Nat.pow_mul]
  exact Nat.pow_le_pow_right (by omega) (by unfold long; omega)
/-- A block's bytes. -/
def blkB (l : List Nat) : List UInt8 := UInt8.ofNat (wd l) :: leB (long (wd l) l.length) (pk (wd l) l)
theorem blkB_length (l : List Nat) : (blkB l).length = 1 + long (wd l) l.length := by
  unfold blkB
  rw [List.length_cons, leB_length, Nat.add_comm]

/-- A block read: the numbers, how many bytes, the error. -/
def rdBlk (m : Nat) : List UInt8 → List Nat × Nat × Int
  | [] => ([], 0, 2)
  | c :: t =>
    if 63 < c.toNat then ([], 0, 3)
    else if t.length < long c.toNat m then ([], 0, 2)
    else if wd (unpk c.toNat m (Pl.num (t.take (long c.toNat m)))) = c.toNat ∧ Pl.num (t.take (long c.toNat m)) < 2 ^ (c.toNat * m) then (unpk c.toNat m (Pl.num (t.take (long c.toNat m))), 1 + long c.toNat m, 0)
    else ([], 0, 3)
/-- Whether the width is the least and the filling is 0: whether these are the bytes that the numbers have. -/
theorem blk_iff (c : UInt8) (T : List UInt8) (m : Nat) (hc : c.toNat ≤ 63) (hT : T.length = long c.toNat m) :
    blkB (unpk c.toNat m (Pl.num T)) = c :: T ↔ wd (unpk c.toNat m (Pl.num T)) = c.toNat ∧ Pl.num T < 2 ^ (c.toNat * m) := by
  generalize hl : unpk c.toNat m (Pl.num T) = l
  have hlen : l.length = m := by rw [← hl]; exact unpk_length _ _ _
  have hlt : ∀ x ∈ l, x < 2 ^ c.toNat := by rw [← hl]; exact unpk_lt _ _ _
  have hpk : pk c.toNat l = Pl.num T % 2 ^ (c.toNat * m) := by rw [← hl]; exact pk_unpk _ _ _
  have hwd : wd l ≤ 63 := Nat.le_trans ((wd_iff l c.toNat (by omega)).2 hlt) hc
  unfold blkB
  rw [List.cons.injEq, hlen]
  constructor
  · rintro ⟨h1, h2⟩
    have h3 : wd l = c.toNat := by
      have := congrArg UInt8.toNat h1
      rw [UInt8.toNat_ofNat'] at this
      omega
    refine ⟨h3, ?_⟩
    rw [h3] at h2
    have h4 := congrArg Pl.num h2
    rw [num_leB, hpk, Nat.mod_eq_of_lt (Nat.lt_of_lt_of_le (Nat.mod_lt _ (Nat.two_pow_pos _)) (long_bits _ _))] at h4
    rw [← h4]
    exact Nat.mod_lt _ (Nat.two_pow_pos _)
  · rintro ⟨h1, h2⟩
    rw [h1, hpk, Nat.mod_eq_of_lt h2, ← hT, leB_num]
    exact ⟨UInt8.ofNat_toNat, rfl⟩
theorem rdBlk_bd (m : Nat) (s : List UInt8) (l : List Nat) (z : Nat) (e : Int) (h : rdBlk m s = (l, z, e)) :
    (e = 0 ∨ e = 2 ∨ e = 3) ∧ z ≤ s.length ∧ (e ≠ 0 → l = [] ∧ z = 0) ∧ (e = 0 → l.length = m ∧ 1 ≤ z ∧ (∀ x ∈ l, x < 9223372036854775808) ∧ blkB l = s.take z) := by
  cases s with
  | nil =>
    obtain ⟨rfl, rfl, rfl⟩ : [] = l ∧ 0 = z ∧ 2 = e := by simpa [rdBlk] using h
    exact ⟨by omega, by simp, fun _ => ⟨rfl, rfl⟩, fun h => by omega⟩
  | cons c t =>
    simp only [rdBlk] at h
    by_cases h1 : 63 < c.toNat
    · rw [if_pos h1] at h
      obtain ⟨rfl, rfl, rfl⟩ : [] = l ∧ 0 = z ∧ 3 = e := by simpa using h
      exact ⟨by omega, by simp, fun _ => ⟨rfl, rfl⟩, fun h => by omega⟩
    · rw [if_neg h1] at h
      by_cases h2 : t.length < long c.toNat m
      · rw [if_pos h2] at h
        obtain ⟨rfl, rfl, rfl⟩ : [] = l ∧ 0 = z ∧ 2 = e := by simpa using h
        exact ⟨by omega, by simp, fun _ => ⟨rfl, rfl⟩, fun h => by omega⟩
      · rw [if_neg h2] at h
        by_cases h3 : wd (unpk c.toNat m (Pl.num (t.take (long c.toNat m)))) = c.toNat ∧ Pl.num (t.take (long c.toNat m)) < 2 ^ (c.toNat * m)
        · rw [if_pos h3] at h
          obtain ⟨rfl, rfl, rfl⟩ : _ = l ∧ 1 + long c.toNat m = z ∧ 0 = e := by simpa using h
          have hT : (t.take (long c.toNat m)).length = long c.toNat m := by rw [List.length_take]; omega
          refine ⟨by omega, by simp only [List.length_cons]; omega, fun h => absurd rfl h, fun _ => ⟨unpk_length _ _ _, by omega, fun x hx => ?_, ?_⟩⟩
          · exact Nat.lt_of_lt_of_le (unpk_lt _ _ _ x hx) (by simpa using Nat.pow_le_pow_right (n := 2) (by omega) (by omega : c.toNat ≤ 63))
          · rw [(blk_iff c _ m (by omega) hT).2 h3, Nat.add_comm 1, List.take_succ_cons]
        · rw [if_neg h3] at h
          obtain ⟨rfl, rfl, rfl⟩ : [] = l ∧ 0 = z ∧ 3 = e := by simpa using h
          exact ⟨by omega, by simp, fun _ => ⟨rfl, rfl⟩, fun h => by omega⟩
/-- A block is read back. -/
theorem rdBlk_back (l : List Nat) (r : List UInt8) (h : ∀ x ∈ l, x < 9223372036854775808) : rdBlk l.length (blkB l ++ r) = (l, (blkB l).length, 0) := by
  have hw := wd_lt l h
  have hm := wd_mem l h
  have hc : (UInt8.ofNat (wd l)).toNat = wd l := by rw [UInt8.toNat_ofNat']; omega
  have hp := pk_lt (wd l) l hm
  have ht : (leB (long (wd l) l.length) (pk (wd l) l) ++ r).take (long (wd l) l.length) = leB (long (wd l) l.length) (pk (wd l) l) := by
    rw [List.take_left' (leB_length _ _)]
  have hn : Pl.num (leB (long (wd l) l.length) (pk (wd l) l)) = pk (wd l) l := by
    rw [num_leB, Nat.mod_eq_of_lt (Nat.lt_of_lt_of_le hp (long_bits _ _))]
  rw [blkB_length]
  unfold blkB
  simp only [List.cons_append, rdBlk]
  rw [hc, ht, hn, unpk_pk _ _ hm, if_neg (by omega), if_neg (by rw [List.length_append, leB_length]; omega), if_pos ⟨rfl, hp⟩]

/-- Blocks of 128, one behind the other. -/
def chB : Nat → List Nat → List UInt8
  | 0, _ => []
  | k + 1, l => if l.length = 0 then [] else blkB (l.take 128) ++ chB k (l.drop 128)
/-- All that is packed. -/
def packB (l : List Nat) : List UInt8 := Pl.numB l.length ++ chB l.length l
theorem chB_more : ∀ (j k : Nat) (l : List Nat), l.length ≤ j → j ≤ k → chB k l = chB j l := by
  intro j
  induction j with
  | zero =>
    intro k l h _
    cases k with
    | zero => rfl
    | succ k => simp only [chB]; rw [if_pos (by omega)]
  | succ j ih =>
    intro k l h hk
    cases k with
    | zero => omega
    | succ k =>
      simp only [chB]
      by_cases h0 : l.length = 0
      · rw [if_pos h0, if_pos h0]
      · rw [if_neg h0, if_neg h0, ih k (l.drop 128) (by rw [List.length_drop]; omega) (by omega)]
/-- Blocks read one by one: all numbers, how many bytes, the error. -/
def rdCh : Nat → Nat → List UInt8 → List Nat → Nat → List Nat × Nat × Int
  | 0, _, _, acc, z => (acc, z, 0)
  | k + 1, n, s, acc, z =>
    if n = 0 then (acc, z, 0)
    else if (rdBlk (Nat.min n 128) s).2.2 ≠ 0 then ([], 0, (rdBlk (Nat.min n 128) s).2.2)
    else rdCh k (n - Nat.min n 128) (s.drop (rdBlk (Nat.min n 128) s).2.1) (acc ++ (rdBlk (Nat.min n 128) s).1) (z + (rdBlk (Nat.min n 128) s).2.1)
/-- What is read at the beginning of bytes. -/
def rdPack (s : List UInt8) : List Nat × Nat × Int :=
  if (Pl.rdCount s).2.2 ≠ 0 then ([], 0, (Pl.rdCount s).2.2)
  else rdCh (Pl.rdCount s).1.toNat (Pl.rdCount s).1.toNat (s.drop (Pl.rdCount s).2.1.toNat) [] (Pl.rdCount s).2.1.toNat

theorem rdCh_back : ∀ (k : Nat) (l acc : List Nat) (r : List UInt8) (z : Nat), l.length ≤ k → (∀ x ∈ l, x < 9223372036854775808) → rdCh k l.length (chB k l ++ r) acc z = (acc ++ l, z + (chB k l).length, 0) := by
  intro k
  induction k with
  | zero =>
    intro l acc r z h _
    obtain rfl : l = [] := List.length_eq_zero_iff.1 (by omega)
    simp [rdCh, chB]
  | succ k ih =>
    intro l acc r z h hl
    by_cases h0 : l.length = 0
    · obtain rfl : l = [] := List.length_eq_zero_iff.1 h0
      simp [rdCh, chB]
    · have hch : chB (k + 1) l = blkB (l.take 128) ++ chB k (l.drop 128) := by
        simp only [chB]
        rw [if_neg h0]
      rw [hch]
      simp only [rdCh]
      rw [if_neg h0, List.append_assoc]
      have hm : Nat.min l.length 128 = (l.take 128).length := by rw [List.length_take, Nat.min_comm]
      have hb := rdBlk_back (l.take 128) (chB k (l.drop 128) ++ r) (fun x hx => hl x (List.mem_of_mem_take hx))
      rw [hm, hb]
      simp only [ne_eq, not_true, if_false]
      have hd : l.length - (l.take 128).length = (l.drop 128).length := by rw [List.length_take, List.length_drop]; omega
      rw [hd, List.drop_left' rfl, ih (l.drop 128) _ r _ (by rw [List.length_drop]; omega) (fun x hx => hl x (List.mem_of_mem_drop hx)), List.append_assoc, List.take_append_drop, List.length_append, Nat.add_assoc]
/-- What was packed is read back. -/
theorem pack_back (l : List Nat) (r : List UInt8) (hn : l.length ≤ 9223372036854775807) (hl : ∀ x ∈ l, x < 9223372036854775808) : rdPack (packB l ++ r) = (l, (packB l).length, 0) := by
  unfold rdPack packB
  rw [List.append_assoc, Iv.count_back l.length _ hn]
  simp only [ne_eq, not_true, if_false, Int.toNat_natCast]
  rw [List.drop_left' rfl, rdCh_back l.length l [] r _ (Nat.le_refl _) hl, List.nil_append, List.length_append]
theorem rdCh_bd : ∀ (k n : Nat) (s : List UInt8) (acc l : List Nat) (z z2 : Nat) (e : Int), n ≤ k → rdCh k n s acc z = (l, z2, e) →
    (e = 0 ∨ e = 2 ∨ e = 3) ∧ (e ≠ 0 → l = [] ∧ z2 = 0) ∧ (e = 0 → ∃ u, l = acc ++ u ∧ u.length = n ∧ z ≤ z2 ∧ z2 ≤ z + s.length ∧ (∀ x ∈ u, x < 9223372036854775808) ∧ chB k u = s.take (z2 - z)) := by
  intro k
  induction k with
  | zero =>
    intro n s acc l z z2 e hk h
    obtain ⟨rfl, rfl, rfl⟩ : acc = l ∧ z = z2 ∧ 0 = e := by simpa [rdCh] using h
    exact ⟨by omega, fun h => absurd rfl h, fun _ => ⟨[], by simp, by simp; omega, by omega, by omega, fun x hx => absurd hx (List.not_mem_nil), by simp [chB]⟩⟩
  | succ k ih =>
    intro n s acc l z z2 e hk h
    simp only [rdCh] at h
    by_cases h0 : n = 0
    · rw [if_pos h0] at h
      obtain ⟨rfl, rfl, rfl⟩ : acc = l ∧ z = z2 ∧ 0 = e := by simpa using h
      exact ⟨by omega, fun h => absurd rfl h, fun _ => ⟨[], by simp, by simp; omega, by omega, by omega, fun x hx => absurd hx (List.not_mem_nil), by simp [chB]⟩⟩
    · rw [if_neg h0] at h
      obtain ⟨l1, z1, e1, hb⟩ : ∃ l1 z1 e1, rdBlk (Nat.min n 128) s = (l1, z1, e1) := ⟨_, _, _, rfl⟩
      obtain ⟨b1, b2, b3, b4⟩ := rdBlk_bd _ _ _ _ _ hb
      rw [hb] at h
      by_cases he : e1 = 0
      · subst he
        simp only [ne_eq, not_true, if_false] at h
        have hpos : 0 < Nat.min n 128 := by simp only [Nat.min_def]; split <;> omega
        obtain ⟨c1, c2, c3⟩ := ih _ _ _ _ _ _ _ (by omega) h
        obtain ⟨d1, d2, d3, d4⟩ := b4 rfl
        refine ⟨c1, c2, fun he => ?_⟩
        obtain ⟨u, u1, u2, u3, u4, u5, u6⟩ := c3 he
        have hmin : Nat.min n 128 ≤ n := Nat.min_le_left _ _
        refine ⟨l1 ++ u, by rw [u1, List.append_assoc], by rw [List.length_append]; omega, by omega, by rw [List.length_drop] at u4; omega, ?_, ?_⟩
        · intro x hx
          rcases List.mem_append.1 hx with hx | hx
          · exact d3 x hx
          · exact u5 x hx
        · simp only [chB]
          rw [if_neg (by rw [List.length_append]; omega)]
          have ht : (l1 ++ u).take 128 = l1 ∧ (l1 ++ u).drop 128 = u := by
            by_cases hn : n ≤ 128
            · have hm : Nat.min n 128 = n := Nat.min_eq_left hn
              have hu : u = [] := List.length_eq_zero_iff.1 (by omega)
              subst hu
              rw [List.append_nil]
              exact ⟨List.take_of_length_le (by omega), List.drop_of_length_le (by omega)⟩
            · have hm : Nat.min n 128 = 128 := Nat.min_eq_right (by omega)
              exact ⟨List.take_left' (by omega), List.drop_left' (by omega)⟩
          rw [ht.1, ht.2, d4, u6, show z2 - z = z1 + (z2 - (z + z1)) from by omega, List.take_add]
      · rw [if_pos he] at h
        obtain ⟨rfl, rfl, rfl⟩ : [] = l ∧ 0 = z2 ∧ e1 = e := by simpa using h
        exact ⟨b1, fun _ => ⟨rfl, rfl⟩, fun h => absurd h he⟩
/-- What is read are just the bytes in which it is packed. -/
theorem pack_one (s : List UInt8) (l : List Nat) (z : Nat) (e : Int) (h : rdPack s = (l, z, e)) :
    (e = 0 ∨ e = 2 ∨ e = 3) ∧ (e ≠ 0 → l = [] ∧ z = 0) ∧ (e = 0 → z ≤ s.length ∧ (∀ x ∈ l, x < 9223372036854775808) ∧ packB l = s.take z ∧ (l.length : Int) = (Pl.rdCount s).1) := by
  obtain ⟨n, y, e1, hw⟩ : ∃ n y e1, Pl.rdCount s = (n, y, e1) := ⟨_, _, _, rfl⟩
  obtain ⟨⟨b1, b2⟩, ⟨b3, b4⟩, b5, b6⟩ := rdCount_bd _ _ _ _ hw
  unfold rdPack at h
  rw [hw] at h ⊢
  by_cases he : e1 = 0
  · subst he
    simp only [ne_eq, not_true, if_false] at h
    obtain ⟨c1, c2, c3⟩ := rdCh_bd _ _ _ _ _ _ _ _ (Nat.le_refl _) h
    refine ⟨c1, c2, fun he => ?_⟩
    obtain ⟨u, u1, u2, u3, u4, u5, u6⟩ := c3 he
    rw [List.nil_append] at u1
    subst u1
    rw [List.length_drop] at u4
    refine ⟨by omega, u5, ?_, by show (l.length : Int) = n; omega⟩
    obtain ⟨o1, _⟩ := Iv.count_one s n y hw
    unfold packB
    rw [u2, show ((n.toNat : Nat) : Int) = n from by omega, o1, u6, show z = y.toNat + (z - y.toNat) from by omega, Nat.add_sub_cancel_left, List.take_add]
  · rw [if_pos he] at h
    obtain ⟨rfl, rfl, rfl⟩ : [] = l ∧ 0 = z ∧ e1 = e := by simpa using h
    exact ⟨b5, fun _ => ⟨rfl, rfl⟩, fun h => absurd h he⟩
theorem long_mono {v w : Nat} (m : Nat) (h : v ≤ w) : long v m ≤ long w m := by
  unfold long
  have := Nat.mul_le_mul_right m h
  omega
/-- A block of numbers below a power of two is small. -/
theorem pack_small (l : List Nat) (w : Nat) (hw : w < 64) (hn : l.length ≤ 128) (h : ∀ x ∈ l, x < 2 ^ w) :
    (packB l).length ≤ (if 112 ≤ l.length then 2 else 1) + (if l.length = 0 then 0 else 1 + long w l.length) := by
  unfold packB
  rw [List.length_append]
  have h1 : (Pl.numB l.length).length = if 112 ≤ l.length then 2 else 1 := by
    have hm := Od.mag_nn (a := (l.length : Int)) (by omega)
    have hm1 : Pl.mag (l.length : Int) = l.length := by simpa using hm.1
    by_cases h0 : l.length < 112
    · rw [Od.numB_near (by rw [hm1]; exact h0), if_neg (by omega)]
      rfl
    · rw [Od.numB_long (by rw [hm1]; exact h0), if_pos (by omega), List.length_cons, be_length, hm1]
      have : Pl.wid (l.length - 112) = 1 := by unfold Pl.wid; rw [if_pos (by omega)]
      omega
  rw [h1]
  by_cases h0 : l.length = 0
  · rw [if_pos h0, h0]
    simp [chB]
  · rw [if_neg h0]
    obtain ⟨k, hk⟩ : ∃ k, l.length = k + 1 := ⟨l.length - 1, by omega⟩
    have h2 : chB l.length l = blkB l := by
      have h3 : chB k (l.drop 128) = [] := by
        rw [List.drop_of_length_le hn]
        cases k <;> rfl
      rw [hk]
      simp only [chB]
      rw [if_neg h0, h3, List.take_of_length_le hn, List.append_nil]
    rw [h2, blkB_length]
    have := long_mono l.length ((wd_iff l w hw).2 h)
    omega
end Go.Proofs.Ytokdjaljeckghaa.Bp
