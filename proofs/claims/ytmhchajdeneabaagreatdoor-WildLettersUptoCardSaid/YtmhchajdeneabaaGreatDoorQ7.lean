/-
  Lemmas on automata, the program's calls and the given ones, put together of 21 texts (part 7).
-/
import Derived.Test.YtmhchajdeneabaaGreatDoorQ1
import Derived.Test.YtmhchajdeneabaaGreatDoorQ6
import Derived.Test.YtmhchajdeneabaaGreatDoorQ3
import Derived.Deep.RegionHeld3
import Derived.Laws.StructEq
import Derived.Test.YtmhchajdeneabaaGreatDoorQ4
import Derived.Deep.AppendLies
import Derived.Test.YtmhchajdeneabaaGreatDoorQ2
import Derived.Test.YtmhchajdeneabaaGreatDoorCards
import Derived.Test.YtmhchajdeneabaaGreatDoorTie
import Derived.ProofKit
import Derived.OpenShut
import Derived.ShutString
import Derived.ChangeOld
import Derived.SizedLaws
import Derived.Deep.DeepHandedRow
import Derived.Deep.DeepWitnessRowRef
import Derived.Lib.LaidIn
import Derived.Lib.LaidU8T
import Derived.PinnedBridge
import Derived.Test.YtmhchajdeneabaaGreatDoorRows
import Derived.JoinedCond
import Derived.SliceStrings
import Derived.Deep.Strs
/-
  How many states a pattern's automaton has; what is made of it; which characters a pattern may have; no program is named here.
-/
namespace Go.Proofs.YtmhchajdeneabaaGreatDoor.Sp
open Go.Lib
open Au (Arc Lo Star May has)
theorem addArc_free {n : List Lo} {p : Nat} {a : Arc} (h : ∀ s ∈ n, s.free = []) : ∀ s ∈ addArc n p a, s.free = [] := fun s hs => by
  obtain ⟨i, hi⟩ := List.mem_iff_getElem?.1 hs
  rw [addArc_at] at hi
  obtain ⟨s', h1, h2⟩ := Option.map_eq_some_iff.1 hi
  have := h s' (List.mem_of_getElem? h1)
  split at h2 <;> (subst h2; exact this)
theorem chainL_free (q : Nat) : ∀ (k : Nat) (rs : List (Int × Int)), ∀ s ∈ chainL q k rs, s.free = []
  | _, [] => fun s h => by cases h
  | k, r :: rs => fun s h => by
    unfold chainL at h
    rcases List.mem_cons.1 h with rfl | h
    · rfl
    · exact chainL_free q (k + 1) rs s h
theorem lead_bound {L : List Lo} {p q X : Nat} (hp : p < L.length) (hX : ∀ s ∈ L, s.arcs.length ≤ X ∧ s.free = []) : ∀ (m : Nat) (R : List (List (Int × Int))), R.length = m → (∀ row ∈ R, 0 < row.length ∧ row.length ≤ 4) → L.length ≤ (lead L p q R).length ∧ (lead L p q R).length ≤ L.length + 3 * m ∧ ∀ s ∈ lead L p q R, s.arcs.length ≤ X + 1 + m ∧ s.free = []
  | 0, R, hR, _ => by
    obtain rfl := List.length_eq_zero_iff.1 hR
    exact ⟨Nat.le_refl _, Nat.le_refl _, fun s hs => ⟨by have := (hX s hs).1; omega, (hX s hs).2⟩⟩
  | m + 1, R, hR, hr => by
    obtain ⟨T, row, rfl⟩ : ∃ T row, R = T ++ [row] := ⟨R.dropLast, R.getLast (by intro e; rw [e] at hR; simp at hR), (List.dropLast_concat_getLast _).symm⟩
    obtain ⟨i1, i2, i3⟩ := lead_bound (q := q) hp hX m T (by simpa using hR) fun r h => hr r (List.mem_append_left _ h)
    have hrow := hr row (by simp)
    rw [lead_snoc]
    generalize lead L p q T = n at *
    obtain ⟨r, rs, rfl⟩ : ∃ r rs, row = r :: rs := by cases row with | nil => exact absurd hrow.1 (by simp) | cons r rs => exact ⟨r, rs, rfl⟩
    have hl := hrow.2
    simp only [List.length_cons] at hl
    rw [leadBy_form q rs r n p (by omega)]
    refine ⟨by rw [List.length_append, addArc_length]; omega, by rw [List.length_append, addArc_length, chainL_length]; omega, fun s hs => ?_⟩
    rcases List.mem_append.1 hs with hs | hs
    · refine ⟨?_, addArc_free (fun s hs => (i3 s hs).2) s hs⟩
      obtain ⟨i, hi⟩ := List.mem_iff_getElem?.1 hs
      rw [addArc_at] at hi
      obtain ⟨s', h1, h2⟩ := Option.map_eq_some_iff.1 hi
      have := (i3 s' (List.mem_of_getElem? h1)).1
      split at h2
      · subst h2
        simp only [List.length_append, List.length_singleton]
        omega
      · subst h2
        omega
    · refine ⟨?_, chainL_free q _ _ s hs⟩
      obtain ⟨i, hi⟩ := List.mem_iff_getElem?.1 hs
      have hlt := (List.getElem?_eq_some_iff.1 hi).1
      rw [chainL_length] at hlt
      rw [chainL_at q _ _ i hlt] at hi
      cases hi
      show 1 ≤ X + 1 + (m + 1)
      omega
end Go.Proofs.YtmhchajdeneabaaGreatDoor.Sp

namespace Go.Proofs.YtmhchajdeneabaaGreatDoor.Wl
open Go.Lib
open Au (Arc Lo Star May has)
open Sp (rows lead Led bs Path MP InRow word Part Shape FitsN PreN star_end nxt)

theorem rows_four (lo hi : Int) : ∀ row ∈ rows lo hi, 0 < row.length ∧ row.length ≤ 4 := fun _ h => ⟨(Sp.rows_shape h).pos, (Sp.rows_shape h).len⟩
theorem step_bound {m : Nat} {s : Nat × Bool × List Lo} {c : Int} {X Y : Nat} (h1 : s.1 < m) (h2 : m ≤ s.2.2.length) (h3 : s.2.2.length ≤ Y) (h4 : ∀ x ∈ s.2.2, x.arcs.length ≤ X ∧ x.free = []) :
    m ≤ (stepA s c).2.2.length ∧ (stepA s c).2.2.length ≤ Y + 27 ∧ ∀ x ∈ (stepA s c).2.2, x.arcs.length ≤ X + 10 ∧ x.free = [] := by
  have key : ∀ (q : Nat) (lo hi : Int), (rows lo hi).length ≤ 9 → m ≤ (lead s.2.2 s.1 q (rows lo hi)).length ∧ (lead s.2.2 s.1 q (rows lo hi)).length ≤ Y + 27 ∧ ∀ x ∈ lead s.2.2 s.1 q (rows lo hi), x.arcs.length ≤ X + 10 ∧ x.free = [] := fun q lo hi hr => by
    obtain ⟨k1, k2, k3⟩ := Sp.lead_bound (q := q) (by omega : s.1 < s.2.2.length) h4 _ (rows lo hi) rfl (rows_four lo hi)
    exact ⟨by omega, by omega, fun x hx => ⟨by have := (k3 x hx).1; omega, (k3 x hx).2⟩⟩
  unfold stepA
  split
  · show m ≤ (if s.2.1 = true then s.2.2 else _).length ∧ (if s.2.1 = true then s.2.2 else _).length ≤ _ ∧ ∀ x ∈ (if s.2.1 = true then s.2.2 else _), _
    split
    · exact ⟨h2, by omega, fun x hx => ⟨by have := (h4 x hx).1; omega, (h4 x hx).2⟩⟩
    · exact key _ _ _ (by rw [Sp.rows_full]; decide)
  · exact key _ _ _ (rows_nine c)
theorem run_bound (m : Nat) : ∀ (xs : List Int), nots xs < m → m ≤ (runA m xs).2.2.length ∧ (runA m xs).2.2.length ≤ m + 27 * xs.length ∧ ∀ x ∈ (runA m xs).2.2, x.arcs.length ≤ 10 * xs.length ∧ x.free = [] := by
  have key : ∀ (k : Nat) (xs : List Int), xs.length = k → nots xs < m → m ≤ (runA m xs).2.2.length ∧ (runA m xs).2.2.length ≤ m + 27 * xs.length ∧ ∀ x ∈ (runA m xs).2.2, x.arcs.length ≤ 10 * xs.length ∧ x.free = [] := by
    intro k
    induction k with
    | zero =>
      intro xs hx _
      obtain rfl := List.length_eq_zero_iff.1 hx
      show m ≤ (blank m).length ∧ _ ∧ ∀ x ∈ blank m, _
      refine ⟨by simp [blank], by simp [runA, blank], fun x hx => ?_⟩
      have := (List.mem_replicate.1 hx).2
      subst this
      exact ⟨by simp, rfl⟩
    | succ k ih =>
      intro xs hx hn
      obtain ⟨T, c, rfl⟩ : ∃ T c, xs = T ++ [c] := ⟨xs.dropLast, xs.getLast (by intro e; rw [e] at hx; simp at hx), (List.dropLast_concat_getLast _).symm⟩
      rw [nots_append] at hn
      obtain ⟨i1, i2, i3⟩ := ih T (by simpa using hx) (by omega)
      have e : runA m (T ++ [c]) = stepA (runA m T) c := by unfold runA; rw [List.foldl_append]; rfl
      rw [e, List.length_append, List.length_singleton]
      obtain ⟨j1, j2, j3⟩ := step_bound (c := c) (m := m) (s := runA m T) (by rw [runA_at]; omega) i1 i2 i3
      exact ⟨j1, by omega, fun x hx => ⟨by have := (j3 x hx).1; omega, (j3 x hx).2⟩⟩
  exact fun xs h => key _ xs rfl h
theorem auto_bound (xs : List Int) (h : xs.length ≤ 17) : nots xs < (auto xs).length ∧ (auto xs).length ≤ 500 ∧ ∀ x ∈ auto xs, x.arcs.length ≤ 170 ∧ x.free = [] := by
  have hn := nots_le xs
  obtain ⟨h1, h2, h3⟩ := run_bound (nots xs + 1) xs (by omega)
  unfold auto
  rw [setF_length]
  refine ⟨by omega, by omega, fun x hx => ?_⟩
  obtain ⟨i, hi⟩ := List.mem_iff_getElem?.1 hx
  rw [setF_at] at hi
  obtain ⟨s', g1, g2⟩ := Option.map_eq_some_iff.1 hi
  have := h3 s' (List.mem_of_getElem? g1)
  split at g2 <;> (subst g2; exact ⟨by show s'.arcs.length ≤ _; omega, this.2⟩)
theorem sum_le (X : Nat) : ∀ (n : List Lo), (∀ x ∈ n, x.arcs.length ≤ X) → (n.map fun s => s.arcs.length).sum ≤ n.length * X
  | [], _ => by simp
  | s :: n, h => by
    have h1 := h s (by simp)
    have h2 := sum_le X n fun x hx => h x (by simp [hx])
    simp only [List.map_cons, List.sum_cons, List.length_cons]
    rw [Nat.succ_mul]
    omega
theorem auto_rows (xs : List Int) (h : xs.length ≤ 17) (S : List Bool) : (Au.rowsOf (auto xs) S).flatten.length ≤ 1099511627776 := by
  obtain ⟨h1, h2, h3⟩ := auto_bound xs h
  have h4 := Au.rows_sum (auto xs) S
  have h5 := sum_le 170 (auto xs) fun x hx => (h3 x hx).1
  have h6 : (auto xs).length * 170 ≤ 500 * 170 := Nat.mul_le_mul_right _ h2
  omega
/-- The automaton of a pattern: what it takes. -/
structure Out (cs : List Int) (s : Bool) (d : List Au.St) : Prop where
  e : Au.tightE (auto (cs ++ tail s)) 20000 = 0
  l : Au.tightL (auto (cs ++ tail s)) 20000 = d
  fits : Au.Fits d
  takes : ∀ l : List UInt8, validD l = true → (Au.takesL d l = true ↔ Meets cs s (Ut.dec l))
theorem auto_out {cs : List Int} (hc : ∀ c ∈ cs, c ≠ 42) (s : Bool) (hl : cs.length ≤ 16) : ∃ d, Out cs s d := by
  have hM := auto_may hc s
  obtain ⟨st, hled⟩ := auto_led hc s
  have htl : (cs ++ tail s).length ≤ 17 := by
    rw [List.length_append]
    cases s <;> simp [tail] <;> omega
  obtain ⟨h1, h2, h3⟩ := auto_bound _ htl
  obtain ⟨i, hi⟩ := det_few hM (led_det hled (base_bare _) (edges_disj cs s)) (by omega)
  have hd := Au.tight_some hi
  obtain ⟨te, tl⟩ := (Au.tight_outs (most := 20000) ((Au.may_true _).2 hM)).2 _ hd
  refine ⟨_, te, tl, Au.tight_fits hM (by decide) hd, fun l hv => ?_⟩
  obtain ⟨e1, e2⟩ := Ut.enc_dec l.length l (Nat.le_refl _) hv
  rw [Au.takesL_of (Au.tight_fits hM (by decide) hd), Au.tight_takes hM hd, ← auto_takes hc s e2]
  unfold words
  rw [e1]
theorem meets_all {cs : List Int} (h : ∀ c ∈ cs, c ≠ 63) {t : List Int} : Meets cs false t ↔ t = cs := by
  unfold Meets
  constructor
  · rintro ⟨h1, h2 | ⟨h2, _⟩⟩
    · refine List.ext_getElem h2.symm fun i h3 h4 => ?_
      exact ((inR_self (h _ (List.getElem_mem h4))).1 (h1 i _ _ (List.getElem?_eq_getElem h4) (List.getElem?_eq_getElem h3))).symm
    · cases h2
  · rintro rfl
    refine ⟨fun i p c h1 h2 => ?_, .inl rfl⟩
    rw [h1] at h2
    cases h2
    exact (inR_self (h _ (List.mem_of_getElem? h1))).2 rfl
/-- Does a list begin with another one? -/
def begins (l head : List Int) : Bool := decide (head.length ≤ l.length ∧ l.take head.length = head)
theorem meets_begins {cs : List Int} (h : ∀ c ∈ cs, c ≠ 63) {t : List Int} : Meets cs true t ↔ begins t cs = true := by
  unfold Meets begins
  rw [decide_eq_true_iff]
  constructor
  · rintro ⟨h1, h2⟩
    have hl : cs.length ≤ t.length := by omega
    refine ⟨hl, List.ext_getElem (by simp; omega) fun i h3 h4 => ?_⟩
    rw [List.getElem_take]
    exact ((inR_self (h _ (List.getElem_mem h4))).1 (h1 i _ _ (List.getElem?_eq_getElem h4) (List.getElem?_eq_getElem (by omega)))).symm
  · rintro ⟨h1, h2⟩
    refine ⟨fun i p c h3 h4 => ?_, .inr ⟨rfl, h1⟩⟩
    have hi := (List.getElem?_eq_some_iff.1 h3).1
    rw [← h2, List.getElem?_take_of_lt hi, h4] at h3
    cases h3
    exact (inR_self (h _ (by rw [← h2]; exact List.mem_iff_getElem?.2 ⟨i, by rw [List.getElem?_take_of_lt hi]; exact h4⟩))).2 rfl

/-- May a character stand in a pattern? -/
def okC (marks : List UInt8) (c : Int) : Bool := Ut.letter c || marks.any fun b => decide (c = (b.toNat : Int))
def letE (l marks : List UInt8) : Int := if Ut.decE l = 0 then (if 16 < (Ut.decS l).length then 4 else if (Ut.decS l).length = 0 then 20 else if ((Ut.decS l).map Ut.fold).all (okC marks) = true then 0 else 20) else Ut.decE l
def letS (l marks : List UInt8) : List Int := if letE l marks = 0 then (Ut.decS l).map Ut.fold else []
theorem letE_ok {l marks : List UInt8} (h : letE l marks = 0) : validD l = true ∧ letS l marks = (Ut.dec l).map Ut.fold ∧ 1 ≤ (letS l marks).length ∧ (letS l marks).length ≤ 16 ∧ (∀ c ∈ letS l marks, okC marks c = true) := by
  have hs : letS l marks = (Ut.decS l).map Ut.fold := by unfold letS; rw [if_pos h]
  unfold letE at h
  split at h
  · rename_i h0
    split at h
    · cases h
    · split at h
      · cases h
      · split at h
        · rename_i h1 h2 h3
          have hv : validD l = true := by
            unfold Ut.decE at h0
            split at h0
            · assumption
            · cases h0
          refine ⟨hv, by rw [hs, Ut.decS_yes hv], by rw [hs, List.length_map]; omega, by rw [hs, List.length_map]; omega, fun c hc => ?_⟩
          rw [hs] at hc
          exact List.all_eq_true.1 h3 c hc
        · cases h
  · rename_i h0
    exact absurd h h0
theorem okC_nil {c : Int} (h : okC [] c = true) : Ut.letter c = true := by simpa [okC] using h
theorem letter_marks {c : Int} (h : Ut.letter c = true) : c ≠ 42 ∧ c ≠ 63 := by
  constructor
  · rintro rfl
    exact absurd h (by decide)
  · rintro rfl
    exact absurd h (by decide)
/-- Is too much behind the first star? -/
def wide (xs : List Int) : Bool := match Lib.idxOf xs 42 with
  | .ofNat k => (xs.drop k).contains 63 && decide (8 < nots (xs.drop k))
  | .negSucc _ => false
end Go.Proofs.YtmhchajdeneabaaGreatDoor.Wl

/-
  How many letters stand ahead; characters, each folded, in new memory.
-/
namespace Go.Proofs.YtmhchajdeneabaaGreatDoor
open Go.RowKit

namespace Ut
/-- The first so many are folded. -/
def fFold (xs : List Int) (k : Nat) : Nat → Value := fun j => .int .i64 (if j < k then fold (xs.getD j 0) else 0)
theorem fFold_step (xs : List Int) (k : Nat) (hk : k < xs.length) (j : Nat) : (if j = k then Value.int .i64 (fold xs[k]) else fFold xs k j) = fFold xs (k + 1) j := by
  unfold fFold
  by_cases e : j = k
  · subst e
    rw [if_pos rfl, if_pos (by omega), List.getD_eq_getElem?_getD, List.getElem?_eq_getElem hk]
    rfl
  · rw [if_neg e]
    by_cases h : j < k
    · rw [if_pos h, if_pos (by omega)]
    · rw [if_neg h, if_neg (by omega)]
end Ut

set_option maxRecDepth 100000 in
set_option maxHeartbeats 1000000 in
theorem foldedOf_any (w : World) (v : Value) (xs : List Int) (hv : IntS w v xs) (hx : xs.length ≤ 17592186044416) :
    Calls Tryz.prog 31 #[v] w fun e w' => ∃ v', e = .returned v' ∧ OwnI w' w.heap.size v' (xs.map Ut.fold) ∧ Below w.heap.size w w' := by
  obtain ⟨a, cap, rfl, _, _, hv⟩ := hv
  have HV := Lib.hid hv
  clear hv
  obtain ⟨n, hn⟩ : ∃ n, n = xs.length := ⟨_, rfl⟩
  have HN := Lib.hid hn
  rw [← hn] at hx ⊢
  clear hn
  have hmk := run_make_row' (P := Tryz.prog) 22 3 (.int .i64 0) 8 Tryz.underlying22 Tryz.infoI rfl .i64 .i64 n (by omega) (by omega)
  go_enter Tryz.func31, Tryz.ntmps31
  go_wp2_with fail
  have HR : Hid ((w.alloc (.cells (madeCells #[.int .i64 0] n) 3)).rowIs w.heap.size 3 n (Ut.fFold xs 0)) := World.rowIs_made w (.int .i64 0) n 3
  have HB : Hid (Below w.heap.size w (w.alloc (.cells (madeCells #[.int .i64 0] n) 3))) := (Below.refl _ _).alloc (Nat.le_refl _) _
  generalize w.alloc (.cells (madeCells #[.int .i64 0] n) 3) = w1 at *
  clear hmk
  obtain ⟨B, hB⟩ : ∃ B, B = w.heap.size := ⟨_, rfl⟩
  have HBe := Lib.hid hB
  rw [← hB] at HR ⊢
  clear hB
  go_loopg [11] n (fun g i wx => ∃ k : Nat, k ≤ n ∧ g = n - k ∧ i = .int .i64 k ∧ Hid (wx.rowIs B 3 n (Ut.fFold xs k)) ∧ Below w.heap.size w wx)
  case atStart => exact ⟨0, Nat.zero_le _, rfl, rfl, HR.out, HB.out⟩
  case round =>
    obtain ⟨k, hk, rfl, rfl, hrow, hbel⟩ := hrel
    by_cases hkn : k < n
    · have i1 : (k : Int) < (n : Int) := by omega
      have kx : k < xs.length := by rw [← HN.out]; exact hkn
      obtain ⟨g, o, rfl, hg, hcu⟩ := HV.out (by omega)
      have c1 : wr.cell? ⟨g, o + k, none⟩ = some (.int .i64 xs[k]) := (hbel.cell (p := ⟨g, o + k, none⟩) hg).trans (hcu k kx)
      have c2 := hrow.out.cell hkn
      have f2 := hrow.out.frozen k
      have hF := Lib.hid (fold_any xs[k] wr)
      have hrow2 : Hid ((wr.setCell ⟨B, k, none⟩ (.int .i64 (Ut.fold xs[k]))).rowIs B 3 n (Ut.fFold xs (k + 1))) :=
        (hrow.out.set k _).congr fun j _ => Ut.fFold_step xs k kx j
      have hbel2 : Hid (Below w.heap.size w (wr.setCell ⟨B, k, none⟩ (.int .i64 (Ut.fold xs[k])))) := hbel.setCell (p := ⟨B, k, none⟩) (by show w.heap.size ≤ B; rw [HBe.out]; exact Nat.le_refl _) _
      generalize Ut.fold xs[k] = d at *
      generalize xs[k] = c at *
      clear hcu hrow hbel
      go_wp2_with fail
      refine hF.out.mono ?_
      rintro e w2 ⟨rfl, rfl⟩
      go_wp2_with fail
      go_roundg (n - (k + 1))
      case rel => exact ⟨k + 1, by omega, rfl, by go_num, hrow2, hbel2.out⟩
      case measure => omega
    · obtain rfl : k = n := by omega
      have i1 : ¬ (k : Int) < (k : Int) := by omega
      have hfin : Hid (OwnI wr w.heap.size (.slice (some ⟨B, 0, none⟩) k k) (xs.map Ut.fold)) := by
        obtain ⟨c, h1, h2, h3⟩ := hrow.out
        refine ⟨by simp [intsV5], .inr ⟨B, k, c, by rw [List.length_map, ← HN.out], by rw [HBe.out]; exact Nat.le_refl _, h1, by rw [List.length_map, ← HN.out]; exact Nat.le_refl _, by unfold maxLen; omega, by omega, ?_⟩⟩
        rw [List.length_map, ← HN.out, Nat.mul_one, List.take_of_length_le (by rw [Array.length_toList, h2]; exact Nat.le_refl _)]
        apply List.ext_getElem?
        intro j
        by_cases hj : j < k
        · have hjx : j < xs.length := by rw [← HN.out]; exact hj
          rw [Array.getElem?_toList, h3 j hj]
          simp [intsV5, Ut.fFold, hj, hjx]
        · rw [List.getElem?_eq_none (by rw [Array.length_toList, h2]; omega), List.getElem?_eq_none (by simp [intsV5]; rw [← HN.out]; omega)]
      have HBE := Lib.hid hbel
      clear hrow hbel
      go_wp2_with fail
      go_ret
      exact ⟨_, rfl, hfin.out, HBE.out⟩
end Go.Proofs.YtmhchajdeneabaaGreatDoor

/-
  The document's own Decode: the characters of all bytes, or the refusal.
-/
namespace Go.Proofs.YtmhchajdeneabaaGreatDoor
open Go.RowKit

namespace Ut
open Go.Lib
theorem missed_bad (l : List UInt8) (n : Nat) (hne : l ≠ []) (hn : n = 5 ∨ l.length < n) (hm : ∀ m, 1 ≤ m → m < n → hit l m = false) : Bad l := by
  by_cases hb : Bad l
  · exact hb
  · exfalso
    have h1 := decodeL_width l
    have h2 := width_four l
    have h3 := decodeL_le l hne
    have h4 := (hit_iff l (decodeL l).2 h3).2 ⟨hne, hb, rfl⟩
    rw [hm _ h1 (by omega)] at h4
    cases h4
end Ut
theorem toList_mk (l : List UInt8) : (⟨l.toArray⟩ : ByteArray).toList = l := by rw [ByteArray.toList_eq]
theorem eq_take (s : ByteArray) (k n : Nat) (l : List UInt8) : ((⟨l.toArray⟩ : ByteArray).toList == (s.extract k (k + n)).toList) = decide (l = (s.data.toList.drop k).take n) := by
  rw [cut_mk5, toList_mk, toList_mk, Bool.eq_iff_iff, beq_iff_eq, decide_eq_true_iff]

theorem wrap_sum (a b : Nat) (h : a + b ≤ 9223372036854775807) : wrap64 ((a : Int) + (b : Int)) = (a : Int) + (b : Int) := IntWalk.wrap64_in _ (by omega)
theorem wrap_sum' (a b : Nat) (h : a + b ≤ 9223372036854775807) : IntKind.i64.wrap ((a : Int) + (b : Int)) = (a : Int) + (b : Int) := (IntWalk.i64_left _).trans (wrap_sum a b h)
theorem keepI {w w3 w4 : World} {v : Value} {acc : List Int} (hb : Below w3.heap.size w3 w4) (h : OwnI w3 w.heap.size v acc ∧ Below w.heap.size w w3) : OwnI w4 w.heap.size v acc ∧ Below w.heap.size w w4 :=
  ⟨h.1.keep hb (Nat.le_refl _), h.2.trans (hb.mono h.2.size)⟩

set_option maxRecDepth 100000 in
set_option maxHeartbeats 4000000 in
theorem decodeR_any (w : World) (s : ByteArray) (hs : s.size ≤ 17592186044415) :
    Calls Tryz.prog 11 #[.string s] w (DecPost w s.data.toList) := by
  have hsl : Hid (s.data.toList.length = s.size) := by show _ = _; simp
  go_enter Tryz.func11, Tryz.ntmps11
  go_wp2_with fail
  go_loopg [4, 5] s.size (fun g v p wx => ∃ (pos : Nat) (acc : List Int), g = s.size - pos ∧ pos ≤ s.size ∧ acc.length ≤ pos ∧ p = .int .i64 pos ∧ OwnI wx w.heap.size v acc ∧ Below w.heap.size w wx ∧
    Hid (acc ++ Ut.dec (s.data.toList.drop pos) = Ut.dec s.data.toList) ∧ Hid (Lib.validD (s.data.toList.drop pos) = Lib.validD s.data.toList))
  case atStart => exact ⟨0, [], rfl, Nat.zero_le _, Nat.le_refl _, rfl, World.ownsRow_nil _ _ _ _, Below.refl _ _, rfl, rfl⟩
  case round =>
    obtain ⟨pos, acc, rfl, hp, hal, rfl, hown, hbel, hdec, hvd⟩ := hrel
    obtain ⟨ad, cp, rfl, _⟩ := ownI_cells hown
    by_cases hps : pos < s.size
    · have i1 : (pos : Int) < (s.size : Int) := by omega
      have hne : Hid (s.data.toList.drop pos ≠ []) := by
        show _ ≠ _
        intro h
        have := congrArg List.length h
        rw [List.length_drop, hsl.out] at this
        simp at this
        omega
      have HO := Lib.hid hown
      have HB := Lib.hid hbel
      clear hown hbel
      go_wp2_with fail
      go_loopg [4, 6] 4 (fun g v p wx => ∃ n : Nat, g = 5 - n ∧ 1 ≤ n ∧ n ≤ 5 ∧ p = .int .i64 n ∧ v = .slice ad acc.length cp ∧ OwnI wx w.heap.size v acc ∧ Below w.heap.size w wx ∧ Hid (∀ m, 1 ≤ m → m < n → Ut.hit (s.data.toList.drop pos) m = false))
      case atStart => exact ⟨1, rfl, Nat.le_refl _, by omega, rfl, rfl, HO.out, HB.out, fun m h1 h2 => by omega⟩
      case round =>
        obtain ⟨n, rfl, hn1, hn5, rfl, rfl, hown, hbel, hmiss⟩ := hrel
        by_cases hn4 : n ≤ 4
        · by_cases hend : pos + n ≤ s.size
          · have i2 : (n : Int) ≤ 4 := by omega
            have i3 : (pos : Int) + (n : Int) ≤ (s.size : Int) := by omega
            have i4 : (0 : Int) ≤ (pos : Int) := by omega
            have i5 : (pos : Int) ≤ (pos : Int) + (n : Int) := by omega
            have i6 : wrap64 ((pos : Int) + (n : Int)) = (pos : Int) + (n : Int) := wrap_sum pos n (by omega)
            have i7 : IntKind.i64.wrap ((pos : Int) + (n : Int)) = (pos : Int) + (n : Int) := wrap_sum' pos n (by omega)
            have i8 : ((pos : Int) + (n : Int)).toNat = pos + n := by omega
            have i9 : (0 : Int) ≤ (pos : Int) + (n : Int) := by omega
            have htl : (s.extract pos (pos + n)).data.toList = (s.data.toList.drop pos).take n := by rw [Lib.extract_data, Nat.add_sub_cancel_left]
            have hts : (s.extract pos (pos + n)).size = n := by rw [ByteArray.size_extract]; omega
            have hg := guess_any wr (s.extract pos (pos + n)) (by omega) (by omega)
            have hgb := Ut.guess_bound (s.extract pos (pos + n)).data.toList
            have hh : Ut.hit (s.data.toList.drop pos) n = (Ut.whole (Ut.guess (s.extract pos (pos + n)).data.toList) && decide (Lib.encodeRune (Ut.guess (s.extract pos (pos + n)).data.toList) = (s.data.toList.drop pos).take n)) := by rw [htl]; rfl
            have hgu : Ut.hit (s.data.toList.drop pos) n = true → n = (Lib.decodeL (s.data.toList.drop pos)).2 ∧ Ut.guess (s.extract pos (pos + n)).data.toList = ((Lib.decodeL (s.data.toList.drop pos)).1 : Int) ∧ ¬ Ut.Bad (s.data.toList.drop pos) := by
              intro h
              obtain ⟨h1, h2, h3⟩ := (Ut.hit_iff _ n (by rw [List.length_drop, hsl.out]; omega)).1 h
              refine ⟨h3, ?_, h2⟩
              rw [htl, h3]
              exact Ut.hit_guess _ h1 h2
            have heq := eq_take s pos n (Lib.encodeRune (Ut.guess (s.extract pos (pos + n)).data.toList))
            have HG := Lib.hid hg
            have HH := Lib.hid hh
            have HGU := Lib.hid hgu
            have HE := Lib.hid heq
            have HX := Lib.hid (And.intro hown hbel)
            clear hg hh hgu heq htl hown hbel
            generalize Ut.guess (s.extract pos (pos + n)).data.toList = c at *
            go_wp2_with fail
            refine HG.out.mono ?_
            rintro e w2 ⟨rfl, hb2⟩
            have H2 : Hid (OwnI w2 w.heap.size (.slice ad acc.length cp) acc ∧ Below w.heap.size w w2) := ⟨HX.out.1.keep hb2 (Nat.le_refl _), HX.out.2.trans (hb2.mono HX.out.2.size)⟩
            clear hb2 HX
            go_wp2_with fail
            have hcw : Hid (∀ W, Calls Tryz.prog 24 #[.int .i64 c] W fun e w' => e = .returned (.bool (Ut.whole c)) ∧ w' = W) := fun W => (wholeR_any c W).mono fun e w' h => ⟨h.1, h.2.symm⟩
            have hS : OwnI w2.drew w.heap.size (.slice ad acc.length cp) acc ∧ Below w.heap.size w w2.drew := ⟨H2.out.1, H2.out.2.drew⟩
            have HS := Lib.hid hS
            clear hS
            cases hwc : Ut.whole c
            · have hmiss2 : Hid (∀ m, 1 ≤ m → m < n + 1 → Ut.hit (s.data.toList.drop pos) m = false) := by
                show ∀ m, _
                intro m h1 h2
                by_cases h : m = n
                · rw [h, HH.out, hwc]; rfl
                · exact hmiss.out m h1 (by omega)
              rw [hwc] at hcw
              clear hmiss HH HGU HE
              go_quiet (first
                | (go_at_call 24; refine Calls.quiet_of_same (hcw.out _)))
              have H3 : Hid (OwnI (w2.drewN nq) w.heap.size (.slice ad acc.length cp) acc ∧ Below w.heap.size w (w2.drewN nq)) := ⟨H2.out.1, belowN H2.out.2 nq⟩
              generalize w2.drewN nq = w3 at *
              go_wp2_with fail
              go_roundg (4 - n)
              case rel => exact ⟨n + 1, by omega, by omega, by omega, by go_num, rfl, H3.out.1, H3.out.2, hmiss2⟩
              case measure => omega
            · have ho := Lib.hid (fun W => one_any5 c hwc W)
              rw [hwc, Bool.true_and] at HH
              rw [hwc] at hcw
              have HTe : Hid (Hid (∀ _ : True, (⟨(Lib.encodeRune c).toArray⟩ : ByteArray).toList = (⟨(Lib.encodeRune c).toArray⟩ : ByteArray).toList)) := fun _ => rfl
              rw [← HH.out] at HE
              clear HTe
              generalize (⟨(Lib.encodeRune c).toArray⟩ : ByteArray) = T at *
              generalize hhit : Ut.hit (s.data.toList.drop pos) n = b at *
              have heq := HE.out
              cases b
              · have hmiss2 : Hid (∀ m, 1 ≤ m → m < n + 1 → Ut.hit (s.data.toList.drop pos) m = false) := by
                  show ∀ m, _
                  intro m h1 h2
                  by_cases h : m = n
                  · rw [h, hhit]
                  · exact hmiss.out m h1 (by omega)
                clear hmiss HH HGU HE
                go_region_held3 (fun wx => OwnI wx w.heap.size (.slice ad acc.length cp) acc ∧ Below w.heap.size w wx) (first | exact HS.out | assumption | exact keepI (by assumption) (by assumption)) (first
                  | (go_at_call 24; refine (hcw.out _).mono ?_; rintro e1 w3 ⟨rfl, rfl⟩)
                  | (go_at_call 25; refine (ho.out _).mono ?_; rintro e1 w4 ⟨rfl, hb4⟩))
                go_wp2_with fail
                have H4 := Lib.hid (keepI hb4 HS.out)
                clear hb4
                go_roundg (4 - n)
                case rel => exact ⟨n + 1, by omega, by omega, by omega, by go_num, rfl, H4.out.1, H4.out.2, hmiss2⟩
                case measure => omega
              · obtain ⟨hwd, hgc, hgood⟩ := HGU.out rfl
                have hne' := hne.out
                have hvs := Ut.validD_good _ hne' hgood
                have hds := Ut.dec_step _ hne'
                rw [List.drop_drop, ← hwd] at hvs hds
                rw [← hgc] at hds
                have hv2 : Hid (Lib.validD (s.data.toList.drop (pos + n)) = Lib.validD s.data.toList) := by show _ = _; rw [← hvs]; exact hvd.out
                have hd2 : Hid ((acc ++ [c]) ++ Ut.dec (s.data.toList.drop (pos + n)) = Ut.dec s.data.toList) := by
                  show _ = _
                  rw [← hdec.out, hds, List.append_assoc]
                  rfl
                have k1 : ¬ (4 : Int) < (n : Int) := by omega
                have k2 : ¬ (s.size : Int) < (pos : Int) + (n : Int) := by omega
                clear hmiss HH HGU HE hwd hgc hgood hne' hvs hds hdec hvd hgb
                go_region_held3 (fun wx => OwnI wx w.heap.size (.slice ad acc.length cp) acc ∧ Below w.heap.size w wx) (first | exact HS.out | assumption | exact keepI (by assumption) (by assumption)) (first
                  | (go_at_call 24; refine (hcw.out _).mono ?_; rintro e1 w3 ⟨rfl, rfl⟩)
                  | (go_at_call 25; refine (ho.out _).mono ?_; rintro e1 w4 ⟨rfl, hb4⟩))
                have H4 := Lib.hid (keepI hb4 HS.out)
                have HX4 := Lib.hid H4.out.2.size
                clear hb4
                go_wp2_with (at_builtin; go_loud ((refine wpList_pushI rfl _ _ rfl w.heap.size HX4.out (.slice ad acc.length cp) acc c rfl H4.out.1 rfl (by omega) ?_; intro v5 w5 hown5 hb5 _)))
                have H5 := Lib.hid (And.intro hown5 (H4.out.2.trans hb5))
                clear hown5 hb5
                go_wp2_with fail
                go_roundg (s.size - (pos + n))
                case rel => exact ⟨pos + n, acc ++ [c], rfl, by omega, by simp; omega, by go_num, H5.out.1, H5.out.2, hd2, hv2⟩
                case measure => omega
          · have i2 : (n : Int) ≤ 4 := by omega
            have i3 : ¬ (pos : Int) + (n : Int) ≤ (s.size : Int) := by omega
            have k1 : ¬ (4 : Int) < (n : Int) := by omega
            have k2 : (s.size : Int) < (pos : Int) + (n : Int) := by omega
            have hbad := Ut.missed_bad _ n hne.out (.inr (by rw [List.length_drop, hsl.out]; omega)) hmiss.out
            have hno := Ut.validD_bad _ hne.out hbad
            rw [hvd.out] at hno
            have hf1 := Lib.hid (Ut.decS_no hno)
            have hf2 := Lib.hid (Ut.decE_no hno)
            have HX := Lib.hid hbel
            clear hbad hno hmiss hdec hvd hown hbel
            go_wp2_with fail
            go_ret2
            exact ⟨_, ret_vi (by rw [hf2.out]), by rw [hf1.out]; exact World.ownsRow_nil _ _ _ _, HX.out⟩
        · have i2 : ¬ (n : Int) ≤ 4 := by omega
          have k1 : (4 : Int) < (n : Int) := by omega
          have hbad := Ut.missed_bad _ n hne.out (.inl (by omega)) hmiss.out
          have hno := Ut.validD_bad _ hne.out hbad
          rw [hvd.out] at hno
          have hf1 := Lib.hid (Ut.decS_no hno)
          have hf2 := Lib.hid (Ut.decE_no hno)
          have HX := Lib.hid hbel
          clear hbad hno hmiss hdec hvd hown hbel
          go_wp2_with fail
          go_ret2
          exact ⟨_, ret_vi (by rw [hf2.out]), by rw [hf1.out]; exact World.ownsRow_nil _ _ _ _, HX.out⟩
    · have i1 : ¬ (pos : Int) < (s.size : Int) := by omega
      have hnil : s.data.toList.drop pos = [] := drop_all5 s pos (by omega)
      have hyes : Lib.validD s.data.toList = true := by rw [← hvd.out, hnil]; rfl
      have hacc : acc = Ut.dec s.data.toList := by rw [← hdec.out, hnil, Ut.dec_nil, List.append_nil]
      have hf1 := Lib.hid ((Ut.decS_yes hyes).trans hacc.symm)
      have hf2 := Lib.hid (Ut.decE_yes hyes)
      have HX := Lib.hid (And.intro hown hbel)
      clear hnil hyes hacc hdec hvd hown hbel
      go_wp2_with fail
      go_ret2
      exact ⟨_, ret_vi (by rw [hf2.out]), by rw [hf1.out]; exact HX.out.1, HX.out.2⟩
end Go.Proofs.YtmhchajdeneabaaGreatDoor

/-
  What Folded answers, the program's and the document's own: all characters, each folded, in new memory, or the refusal.
-/
namespace Go.Proofs.YtmhchajdeneabaaGreatDoor
open Go.RowKit

/-- What Folded answers. -/
def FoldPost (w : World) (l : List UInt8) (e : Ending) (w' : World) : Prop :=
  ∃ v, e = .returned (.tuple #[v, .int .i64 (Ut.decE l)]) ∧ OwnI w' w.heap.size v ((Ut.decS l).map Ut.fold) ∧ Below w.heap.size w w'
theorem OwnI.base {w : World} {B C : Nat} {v : Value} {l : List Int} (h : OwnI w B v l) (hC : C ≤ B) : OwnI w C v l := by
  refine ⟨h.1, ?_⟩
  rcases h.2 with h1 | ⟨g, cap, cur, h1, hg, hr⟩
  · exact .inl h1
  · exact .inr ⟨g, cap, cur, h1, Nat.le_trans hC hg, hr⟩

set_option maxRecDepth 100000 in
set_option maxHeartbeats 2000000 in
theorem folded_any (w : World) (s : ByteArray) (hT : Tabs w) (hs : s.size ≤ 17592186044415) : Calls Tryz.prog 17 #[.string s] w (FoldPost w s.data.toList) := by
  have hd := decode_any w s hT (by omega)
  have hln := Ut.decS_length s.data.toList
  rw [show s.data.toList.length = s.size from by simp] at hln
  have hno : ¬ Ut.decE s.data.toList = 0 → Ut.decS s.data.toList = [] := by
    intro h
    cases hv : Lib.validD s.data.toList
    · exact Ut.decS_no hv
    · exact absurd (Ut.decE_yes hv) h
  unfold DecPost at hd
  unfold FoldPost
  generalize Ut.decE s.data.toList = E at *
  generalize Ut.decS s.data.toList = L at *
  have HD := Lib.hid hd
  clear hd hT
  by_cases h0 : E = 0
  · subst h0
    clear hno
    go_enter Tryz.func17, Tryz.ntmps17
    go_wp2_with fail
    refine HD.out.mono ?_
    rintro e w1 ⟨v, rfl, hown, hb⟩
    have hF := Lib.hid (foldedOf_any w1 v L (hown.ints (by omega)) (by omega))
    have HB := Lib.hid hb
    clear hown hb
    go_wp2_with fail
    refine hF.out.mono ?_
    rintro e w2 ⟨v2, rfl, hown2, hb2⟩
    have HO2 : Hid (OwnI w2 w.heap.size v2 (L.map Ut.fold)) := hown2.base HB.out.size
    have HB2 : Hid (Below w.heap.size w w2) := HB.out.trans (hb2.mono HB.out.size)
    clear hown2 hb2
    go_wp2_with fail
    go_ret2
    exact ⟨_, rfl, HO2.out, HB2.out⟩
  · have h1 : (E != 0) = true := by simpa using h0
    have HN := Lib.hid (hno h0)
    clear hno
    go_enter Tryz.func17, Tryz.ntmps17
    go_wp2_with fail
    refine HD.out.mono ?_
    rintro e w1 ⟨v, rfl, _, hb⟩
    have HB := Lib.hid hb
    clear hb
    go_wp2_with fail
    go_ret2
    exact ⟨_, rfl, by rw [HN.out]; exact World.ownsRow_nil _ _ _ _, HB.out⟩

set_option maxRecDepth 100000 in
set_option maxHeartbeats 2000000 in
theorem foldedR_any (w : World) (s : ByteArray) (hs : s.size ≤ 17592186044415) : Calls Tryz.prog 20 #[.string s] w (FoldPost w s.data.toList) := by
  have hd := decodeR_any w s hs
  have hln := Ut.decS_length s.data.toList
  rw [show s.data.toList.length = s.size from by simp] at hln
  unfold DecPost at hd
  unfold FoldPost
  generalize Ut.decE s.data.toList = E at *
  generalize Ut.decS s.data.toList = L at *
  have HD := Lib.hid hd
  have HFo : Hid (∀ (c : Int) (W : World), Calls Tryz.prog 34 #[.int .i64 c] W fun e w' => e = .returned (.int .i64 (Ut.fold c)) ∧ Below W.heap.size W w') := foldR_any
  clear hd
  go_enter Tryz.func20, Tryz.ntmps20
  go_wp2_with fail
  refine HD.out.mono ?_
  rintro e w1 ⟨v, rfl, hown, hb⟩
  have HB := Lib.hid hb
  have hI := hown.ints (by omega)
  obtain ⟨a0, c0, rfl, _, _, hcl⟩ := hI
  have HG := Lib.hid hcl
  clear hb hown HD hcl
  obtain ⟨n, hn⟩ : ∃ n, n = L.length := ⟨_, rfl⟩
  have HN := Lib.hid hn
  rw [← hn] at hln ⊢
  clear hn
  go_wp2_with fail
  go_loopg [6, 7] n (fun gg ov iv wx => ∃ i : Nat, i ≤ n ∧ gg = n - i ∧ iv = .int .i64 (i : Int) ∧ OwnI wx w1.heap.size ov ((L.take i).map Ut.fold) ∧ Below w1.heap.size w1 wx)
  case atStart => exact ⟨0, Nat.zero_le _, rfl, rfl, by rw [List.take_zero]; exact World.ownsRow_nil _ _ _ _, Below.refl _ _⟩
  case round =>
    obtain ⟨i, hi, rfl, rfl, hown, hb1⟩ := hrel
    by_cases hin : i < n
    · have i2 : (i : Int) < (n : Int) := by omega
      have ix : i < L.length := by rw [← HN.out]; exact hin
      obtain ⟨g, o, rfl, hg, hcell⟩ := HG.out (by omega)
      have c1 : wr.cell? ⟨g, o + i, none⟩ = some (.int .i64 L[i]) := (hb1.cell (p := ⟨g, o + i, none⟩) hg).trans (hcell i ix)
      have hF := Lib.hid (HFo.out L[i] wr)
      have hst : (L.take i).map Ut.fold ++ [Ut.fold L[i]] = (L.take (i + 1)).map Ut.fold := by
        rw [List.take_succ_eq_append_getElem ix, List.map_append]
        rfl
      have hll : ((L.take i).map Ut.fold).length ≤ i := by rw [List.length_map]; exact List.length_take_le _ _
      generalize (L.take i).map Ut.fold = acc at *
      generalize Ut.fold L[i] = d at *
      generalize L[i] = ci at *
      have HST := Lib.hid hst
      have HO := Lib.hid hown
      have HBB := Lib.hid hb1
      clear hst hown hb1 hcell
      obtain ⟨a6, c6, rfl, _⟩ := ownI_cells HO.out
      go_wp2_with fail
      refine hF.out.mono ?_
      rintro e w2 ⟨rfl, hb2⟩
      have HO2 := Lib.hid (HO.out.keep hb2 (Nat.le_refl _))
      have HB2 : Hid (Below w1.heap.size w1 w2) := HBB.out.trans (hb2.mono HBB.out.size)
      have HZ := Lib.hid HB2.out.size
      clear hb2
      go_wp2_with (at_builtin; go_loud ((refine wpList_pushI rfl _ _ rfl w1.heap.size HZ.out (.slice a6 acc.length c6) acc d rfl HO2.out rfl (by omega) ?_; intro v5 w5 hown5 hb5 _)))
      have HO5 : Hid (OwnI w5 w1.heap.size v5 ((L.take (i + 1)).map Ut.fold)) := by show OwnI _ _ _ _; rw [← HST.out]; exact hown5
      have HB5 : Hid (Below w1.heap.size w1 w5) := HB2.out.trans hb5
      clear hown5 hb5
      go_wp2_with fail
      go_roundg (n - (i + 1))
      case rel => exact ⟨i + 1, by omega, rfl, by go_num, HO5.out, HB5.out⟩
      case measure => omega
    · have i2 : ¬ (i : Int) < (n : Int) := by omega
      have HO5 : Hid (OwnI wr w.heap.size u6 (L.map Ut.fold)) := by
        show OwnI _ _ _ _
        rw [List.take_of_length_le (by rw [← HN.out]; omega)] at hown
        exact hown.base HB.out.size
      have HB5 : Hid (Below w.heap.size w wr) := HB.out.trans (hb1.mono HB.out.size)
      clear hown hb1
      go_wp2_with fail
      go_ret2
      exact ⟨_, rfl, HO5.out, HB5.out⟩
end Go.Proofs.YtmhchajdeneabaaGreatDoor

/-
  What the small calls of package wild answer: marks, how many characters aren't stars, whether too much stands behind the first star, for which characters one stands.
-/
namespace Go.Proofs.YtmhchajdeneabaaGreatDoor
open Go.RowKit

theorem index_iff (l : List UInt8) (c : UInt8) : 0 ≤ Lib.indexByte l c ↔ c ∈ l := by
  induction l with
  | nil => simp [Lib.indexByte]
  | cons b l ih =>
    have h1 := Lib.indexByte_ge l c
    unfold Lib.indexByte
    by_cases h : b = c
    · simp [h]
    · have e1 : (b == c) = false := by simpa using h
      rw [e1]
      by_cases h2 : Lib.indexByte l c = -1
      · have : ¬ c ∈ l := fun hc => by have := ih.2 hc; omega
        simp [h2, this, Ne.symm h]
      · have e2 : (Lib.indexByte l c == -1) = false := by simpa using h2
        have : c ∈ l := ih.1 (by omega)
        rw [e2]
        simp only [Bool.false_eq_true, if_false]
        exact ⟨fun _ => by simp [this], fun _ => by omega⟩
namespace Wl
/-- Is a character one of the bytes? -/
def mark (m : List UInt8) (c : Int) : Bool := m.any fun b => decide (c = (b.toNat : Int))
theorem okC_eq (m : List UInt8) (c : Int) : okC m c = (Ut.letter c || mark m c) := rfl
theorem mark_index {m : List UInt8} {c : Int} (h0 : 0 ≤ c) (h1 : c ≤ 255) : mark m c = decide (0 ≤ Lib.indexByte m c.toNat.toUInt8) := by
  rw [Bool.eq_iff_iff, decide_eq_true_iff, index_iff]
  unfold mark
  rw [List.any_eq_true]
  have hb : ((c.toNat.toUInt8).toNat : Int) = c := Ut.byteI c h0 (by omega)
  constructor
  · rintro ⟨b, hb1, hb2⟩
    have hb2 : c = (b.toNat : Int) := of_decide_eq_true hb2
    have : b = c.toNat.toUInt8 := by
      rw [hb2]
      simp
    rw [← this]
    exact hb1
  · intro h
    exact ⟨_, h, decide_eq_true hb.symm⟩
theorem mark_far {m : List UInt8} {c : Int} (h : 255 < c) : mark m c = false := by
  unfold mark
  rw [List.any_eq_false]
  intro b _
  have := b.toNat_lt
  simp
  omega
theorem nots_step {xs : List Int} {k : Nat} (h : k < xs.length) : nots (xs.take (k + 1)) = nots (xs.take k) + if xs[k] = 42 then 0 else 1 := by
  rw [List.take_succ_eq_append_getElem h, nots_append, nots_cons]
  rfl
end Wl

set_option maxRecDepth 100000 in
set_option maxHeartbeats 1000000 in
theorem isMark_any (c : Int) (m : ByteArray) (h0 : 0 ≤ c) (w : World) :
    Calls Tryz.prog 19 #[.int .i64 c, .string m] w fun e w' => e = .returned (.bool (Wl.mark m.data.toList c)) ∧ w = w' := by
  by_cases h1 : c ≤ 255
  · have hx : IntKind.u8.wrap c = c := by simp [IntKind.wrap, IntKind.bits, IntKind.signed]; omega
    have hm := Wl.mark_index (m := m.data.toList) h0 h1
    have HS := Lib.hid (fun w => Tryz.strings_IndexByte m c w)
    rw [hm]
    generalize Lib.indexByte m.data.toList c.toNat.toUInt8 = x at *
    clear hm
    go_enter Tryz.func19, Tryz.ntmps19
    go_wp2_with fail
    refine (HS.out w).mono ?_
    rintro e w' ⟨rfl, rfl⟩
    by_cases h2 : 0 ≤ x
    · have hd : Hid (decide (0 ≤ x) = true) := decide_eq_true h2
      go_wp2_with fail
      go_ret
      exact ⟨ret_bool hd.out.symm, rfl⟩
    · have hd : Hid (decide (0 ≤ x) = false) := decide_eq_false h2
      go_wp2_with fail
      go_ret
      exact ⟨rfl, rfl⟩
  · have hd := Lib.hid (Wl.mark_far (m := m.data.toList) (by omega : 255 < c))
    go_enter Tryz.func19, Tryz.ntmps19
    go_wp2_with fail
    go_ret
    exact ⟨ret_bool hd.out.symm, rfl⟩

set_option maxRecDepth 100000 in
set_option maxHeartbeats 1000000 in
theorem notStars_any (v : Value) (xs : List Int) (hx : xs.length ≤ 1099511627776) (w : World) (hv : IntS w v xs) :
    Calls Tryz.prog 36 #[v] w fun e w' => e = .returned (.int .i64 (Wl.nots xs : Int)) ∧ w = w' := by
  obtain ⟨a, cap, rfl, _, _, hv⟩ := hv
  have HV := Lib.hid hv
  clear hv
  obtain ⟨n, hn⟩ : ∃ n, n = xs.length := ⟨_, rfl⟩
  have HN := Lib.hid hn
  rw [← hn] at hx ⊢
  clear hn
  go_enter Tryz.func36, Tryz.ntmps36
  go_wp2_with fail
  go_loopg [3, 8] n (fun g c i wx => ∃ (k t : Nat), wx = w ∧ k ≤ n ∧ g = n - k ∧ c = .int .i64 t ∧ i = .int .i64 k ∧ t ≤ k ∧ Hid (t = Wl.nots (xs.take k)))
  case atStart => exact ⟨0, 0, rfl, Nat.zero_le _, rfl, rfl, rfl, Nat.le_refl _, rfl⟩
  case round =>
    obtain ⟨k, t, rfl, hk, rfl, rfl, rfl, ht, hT⟩ := hrel
    by_cases hkn : k < n
    · have i1 : (k : Int) < (n : Int) := by omega
      have kx : k < xs.length := by rw [← HN.out]; exact hkn
      obtain ⟨g, o, rfl, hg, hcu⟩ := HV.out (by omega)
      have c1 := hcu k kx
      have HST := Lib.hid (Wl.nots_step kx)
      clear hcu
      generalize xs[k] = x at *
      by_cases h2 : x = 42
      · have hf : Hid (t = Wl.nots (xs.take (k + 1))) := by show _ = _; rw [HST.out, if_pos h2, hT.out]; rfl
        clear HST hT
        subst h2
        go_wp2_with fail
        go_roundg (n - (k + 1))
        case rel => exact ⟨k + 1, t, rfl, by omega, rfl, rfl, by go_num, by omega, hf⟩
        case measure => omega
      · have hf : Hid (t + 1 = Wl.nots (xs.take (k + 1))) := by show _ = _; rw [HST.out, if_neg h2, hT.out]
        clear HST hT
        go_wp2_with fail
        go_roundg (n - (k + 1))
        case rel => exact ⟨k + 1, t + 1, rfl, by omega, rfl, by go_num, by go_num, by omega, hf⟩
        case measure => omega
    · obtain rfl : k = n := by omega
      have i1 : ¬ (k : Int) < (k : Int) := by omega
      have hf : Hid (t = Wl.nots xs) := by
        show _ = _
        rw [hT.out, List.take_of_length_le (by rw [← HN.out]; omega)]
      clear hT
      go_wp2_with fail
      go_ret
      exact ⟨by rw [hf.out]; rfl, rfl⟩

set_option maxRecDepth 100000 in
set_option maxHeartbeats 1000000 in
theorem chars_of (c : Int) (w : World) :
    Calls Tryz.prog 37 #[.int .i64 c] w fun e w' => e = .returned (.tuple #[.int .i64 (Wl.rng c).1, .int .i64 (Wl.rng c).2]) ∧ w = w' := by
  by_cases h : c = 63
  · subst h
    go_enter Tryz.func37, Tryz.ntmps37
    go_wp2_with fail
    go_ret2
    exact ⟨rfl, rfl⟩
  · have e : Hid (Wl.rng c = (c, c)) := if_neg h
    go_enter Tryz.func37, Tryz.ntmps37
    go_wp2_with fail
    go_ret2
    exact ⟨by rw [e.out]; rfl, rfl⟩

namespace Wl
theorem idx_cases (xs : List Int) (x : Int) : (Lib.idxOf xs x = -1 ∧ x ∉ xs) ∨ ∃ k : Nat, Lib.idxOf xs x = (k : Int) ∧ k < xs.length ∧ xs[k]? = some x := by
  have key : ∀ (xs : List Int) (i : Nat), (Lib.idxFrom xs x i = -1 ∧ x ∉ xs) ∨ ∃ k : Nat, Lib.idxFrom xs x i = ((i + k : Nat) : Int) ∧ k < xs.length ∧ xs[k]? = some x := by
    intro xs
    induction xs with
    | nil => intro i; exact .inl ⟨rfl, by simp⟩
    | cons y ys ih =>
      intro i
      by_cases h : y = x
      · exact .inr ⟨0, by simp [Lib.idxFrom, h], by simp, by simp [h]⟩
      · have e : Lib.idxFrom (y :: ys) x i = Lib.idxFrom ys x (i + 1) := by simp [Lib.idxFrom, h]
        rw [e]
        rcases ih (i + 1) with ⟨h1, h2⟩ | ⟨k, h1, h2, h3⟩
        · exact .inl ⟨h1, by simp [Ne.symm h, h2]⟩
        · exact .inr ⟨k + 1, by rw [h1, show i + 1 + k = i + (k + 1) by omega], by simpa using h2, by simpa using h3⟩
  rcases key xs 0 with h | ⟨k, h1, h2, h3⟩
  · exact .inl h
  · exact .inr ⟨k, by rw [Nat.zero_add] at h1; exact h1, h2, h3⟩
end Wl
theorem IntS.drop {w : World} {a : Option Addr} {xs : List Int} {cap k : Nat} (h : IntS w (.slice a xs.length cap) xs) (hk : k < xs.length) : ∃ g o, a = some ⟨g, o, none⟩ ∧ IntS w (.slice (some ⟨g, o + k, none⟩) (xs.length - k) (cap - k)) (xs.drop k) ∧ xs.length ≤ cap ∧ cap ≤ 9223372036854775807 := by
  obtain ⟨a', cap', e, h1, h2, h3⟩ := h
  obtain ⟨rfl, _, rfl⟩ : a = a' ∧ True ∧ cap = cap' := by injection e with e1 e2 e3; exact ⟨e1, trivial, e3⟩
  obtain ⟨g, o, rfl, hg, hc⟩ := h3 (by omega)
  have hl : (xs.drop k).length = xs.length - k := List.length_drop
  refine ⟨g, o, rfl, ⟨some ⟨g, o + k, none⟩, cap - k, by rw [hl], by omega, by omega, fun _ => ⟨g, o + k, rfl, hg, fun j hj => ?_⟩⟩, h1, h2⟩
  rw [hl] at hj
  have := hc (k + j) (by omega)
  rw [List.getElem_drop, Nat.add_assoc]
  exact this
end Go.Proofs.YtmhchajdeneabaaGreatDoor

/-
  What Letters answers, the program's and the document's own: the folded characters, or the refusal; whether too much stands behind the first star; whether a list begins with another one.
-/
namespace Go.Proofs.YtmhchajdeneabaaGreatDoor
open Go.RowKit

namespace Wl
theorem letE_no {l m : List UInt8} (h : ¬ Ut.decE l = 0) : letE l m = Ut.decE l := by unfold letE; rw [if_neg h]
theorem letE_yes {l m : List UInt8} (h : Ut.decE l = 0) : letE l m = if 16 < (Ut.decS l).length then 4 else if (Ut.decS l).length = 0 then 20 else if ((Ut.decS l).map Ut.fold).all (okC m) = true then 0 else 20 := by unfold letE; rw [if_pos h]
theorem letS_no {l m : List UInt8} (h : ¬ letE l m = 0) : letS l m = [] := if_neg h
theorem fold_whole (l : List UInt8) : ∀ c ∈ (Ut.decS l).map Ut.fold, Ut.whole c = true := fun c hc => by
  obtain ⟨d, hd, rfl⟩ := List.mem_map.1 hc
  refine Ut.whole_fold d ?_
  by_cases hv : Lib.validD l = true
  · rw [Ut.decS_yes hv] at hd
    exact Ut.allW_iff.1 (Ut.enc_dec l.length l (Nat.le_refl _) hv).2 d hd
  · rw [Ut.decS_no (by simpa using hv)] at hd
    cases hd
end Wl
/-- What Letters answers. -/
def LetPost (w : World) (l m : List UInt8) (e : Ending) (w' : World) : Prop :=
  ∃ v, e = .returned (.tuple #[v, .int .i64 (Wl.letE l m)]) ∧ OwnI w' w.heap.size v (Wl.letS l m) ∧ Below w.heap.size w w'

set_option maxRecDepth 100000 in
set_option maxHeartbeats 2000000 in
theorem letters_any (w : World) (s m : ByteArray) (hT : Tabs w) (hs : s.size ≤ 17592186044415) : Calls Tryz.prog 6 #[.string s, .string m] w (LetPost w s.data.toList m.data.toList) := by
  have hd := folded_any w s hT hs
  have hln := Ut.decS_length s.data.toList
  rw [show s.data.toList.length = s.size from by simp] at hln
  have HE0 := Lib.hid (fun h => @Wl.letE_no s.data.toList m.data.toList h)
  have HE1 := Lib.hid (fun h => @Wl.letE_yes s.data.toList m.data.toList h)
  have HS0 := Lib.hid (fun h => @Wl.letS_no s.data.toList m.data.toList h)
  have HS1 : Hid (Wl.letE s.data.toList m.data.toList = 0 → Wl.letS s.data.toList m.data.toList = (Ut.decS s.data.toList).map Ut.fold) := fun h => if_pos h
  have HW := Lib.hid (Wl.fold_whole s.data.toList)
  unfold FoldPost at hd
  unfold LetPost
  have hnl : ((Ut.decS s.data.toList).map Ut.fold).length = (Ut.decS s.data.toList).length := List.length_map _
  generalize Ut.decE s.data.toList = E at *
  generalize (Ut.decS s.data.toList).map Ut.fold = L at *
  generalize (Ut.decS s.data.toList).length = n at *
  generalize Wl.letE s.data.toList m.data.toList = E' at *
  generalize Wl.letS s.data.toList m.data.toList = S' at *
  have HD := Lib.hid hd
  have HN := Lib.hid hnl
  clear hd hT hnl
  go_enter Tryz.func6, Tryz.ntmps6
  go_wp2_with fail
  refine HD.out.mono ?_
  rintro e w1 ⟨v, rfl, hown, hb⟩
  obtain ⟨a, c, rfl, _⟩ := ownI_cells hown
  have HI := Lib.hid (hown.ints (by rw [HN.out]; omega))
  have HO := Lib.hid hown
  have HB := Lib.hid hb
  rw [HN.out]
  clear hown hb
  by_cases h0 : E = 0
  · subst h0
    by_cases h1 : 16 < n
    · have h2 : (16 : Int) < (n : Int) := by omega
      have he : Hid (E' = 4) := by show _ = _; rw [HE1.out rfl, if_pos h1]
      have hs' : Hid (S' = []) := HS0.out (by rw [he.out]; decide)
      clear HE0 HE1 HS0 HS1
      go_wp2_with fail
      go_ret2
      exact ⟨_, by rw [he.out]; rfl, by rw [hs'.out]; exact World.ownsRow_nil _ _ _ _, HB.out⟩
    · have h2 : ¬ (16 : Int) < (n : Int) := by omega
      by_cases h3 : n = 0
      · have he : Hid (E' = 20) := by show _ = _; rw [HE1.out rfl, if_neg h1, if_pos h3]
        have hs' : Hid (S' = []) := HS0.out (by rw [he.out]; decide)
        clear HE0 HE1 HS0 HS1
        subst h3
        go_wp2_with fail
        go_ret2
        exact ⟨_, by rw [he.out]; rfl, by rw [hs'.out]; exact World.ownsRow_nil _ _ _ _, HB.out⟩
      · have h4 : ((n : Int) == 0) = false := by simpa using h3
        have HA : Hid (E' = if L.all (Wl.okC m.data.toList) = true then 0 else 20) := by show _ = _; rw [HE1.out rfl, if_neg h1, if_neg h3]
        clear HE0 HE1
        go_wp2_with fail
        go_loopg [29] n (fun g i wx => ∃ k : Nat, wx = w1 ∧ k ≤ n ∧ g = n - k ∧ i = .int .i64 k ∧ Hid ((L.take k).all (Wl.okC m.data.toList) = true))
        case atStart => exact ⟨0, rfl, Nat.zero_le _, rfl, rfl, rfl⟩
        case round =>
          obtain ⟨k, rfl, hk, rfl, rfl, hA⟩ := hrel
          by_cases hkn : k < n
          · have i1 : (k : Int) < (n : Int) := by omega
            have kx : k < L.length := by rw [HN.out]; exact hkn
            obtain ⟨a', cap', e', _, _, hcu⟩ := HI.out
            cases e'
            obtain ⟨g, o, rfl, hg, hcu⟩ := hcu (by omega)
            have c1 := hcu k kx
            have HL := Lib.hid (letter_any L[k] wr)
            have hwh := Ut.whole_iff.1 (HW.out L[k] (List.getElem_mem kx))
            have HM := Lib.hid (isMark_any L[k] m (by omega) wr)
            have HST : Hid ((L.take (k + 1)).all (Wl.okC m.data.toList) = (Ut.letter L[k] || Wl.mark m.data.toList L[k])) := by
              show _ = _
              rw [List.take_succ_eq_append_getElem kx, List.all_append, hA.out, List.all_cons, List.all_nil, Bool.and_true, Bool.true_and]
              rfl
            have HNO : Hid (Ut.letter L[k] = false → Wl.mark m.data.toList L[k] = false → L.all (Wl.okC m.data.toList) = false) := fun q1 q2 => by
              rw [List.all_eq_false]
              exact ⟨L[k], List.getElem_mem kx, by rw [Wl.okC_eq, q1, q2]; simp⟩
            clear hcu hwh hA
            generalize Ut.letter L[k] = b1 at *
            generalize Wl.mark m.data.toList L[k] = b2 at *
            generalize L[k] = x at *
            cases b1 with
            | true =>
              have hf : Hid ((L.take (k + 1)).all (Wl.okC m.data.toList) = true) := by show _ = _; rw [HST.out]; rfl
              clear HST HNO
              go_wp2_with fail
              refine HL.out.mono ?_
              rintro e w2 ⟨rfl, rfl⟩
              go_wp2_with fail
              go_roundg (n - (k + 1))
              case rel => exact ⟨k + 1, rfl, by omega, rfl, by go_num, hf⟩
              case measure => omega
            | false =>
              go_wp2_with fail
              refine HL.out.mono ?_
              rintro e w2 ⟨rfl, rfl⟩
              cases b2 with
              | true =>
                have hf : Hid ((L.take (k + 1)).all (Wl.okC m.data.toList) = true) := by show _ = _; rw [HST.out]; rfl
                clear HST HNO
                go_wp2_with fail
                refine HM.out.mono ?_
                rintro e w2 ⟨rfl, rfl⟩
                go_wp2_with fail
                go_roundg (n - (k + 1))
                case rel => exact ⟨k + 1, rfl, by omega, rfl, by go_num, hf⟩
                case measure => omega
              | false =>
                have he : Hid (E' = 20) := by show _ = _; rw [HA.out, HNO.out (by trivial) (by trivial)]; rfl
                have hs' : Hid (S' = []) := HS0.out (by rw [he.out]; decide)
                clear HST HNO
                go_wp2_with fail
                refine HM.out.mono ?_
                rintro e w2 ⟨rfl, rfl⟩
                go_wp2_with fail
                go_ret2
                exact ⟨_, by rw [he.out]; rfl, by rw [hs'.out]; exact World.ownsRow_nil _ _ _ _, HB.out⟩
          · obtain rfl : k = n := by omega
            have i1 : ¬ (k : Int) < (k : Int) := by omega
            rw [List.take_of_length_le (by rw [HN.out]; exact Nat.le_refl _)] at hA
            have he : Hid (E' = 0) := by show _ = _; rw [HA.out, hA.out]; rfl
            have hs' : Hid (S' = L) := HS1.out he.out
            clear hA
            go_wp2_with fail
            go_ret2
            exact ⟨_, by rw [he.out]; rfl, by rw [hs'.out]; have := HO.out; rw [HN.out] at this; exact this, HB.out⟩
  · have h1 : (E != 0) = true := by simpa using h0
    have he := Lib.hid (HE0.out h0)
    have hs' : Hid (S' = []) := HS0.out (by rw [he.out]; exact h0)
    clear HE0 HE1 HS0 HS1
    go_wp2_with fail
    go_ret2
    exact ⟨_, by rw [he.out]; rfl, by rw [hs'.out]; exact World.ownsRow_nil _ _ _ _, HB.out⟩
end Go.Proofs.YtmhchajdeneabaaGreatDoor

/-
  What the document's own Letters and Begins answer, and whether too much stands behind the first star.
-/
namespace Go.Proofs.YtmhchajdeneabaaGreatDoor
open Go.RowKit

theorem index_any (v : Value) (xs : List Int) (x : Int) (w : World) (hv : IntS w v xs) (hl : xs.length ≤ 1099511627776) :
    Calls Tryz.prog 41 #[v, .int .i64 x] w fun e w' => e = .returned (.int .i64 (Lib.idxOf xs x)) ∧ w' = w := by
  obtain ⟨a, cap, rfl, _, _, hc⟩ := hv
  by_cases h0 : xs.length = 0
  · obtain rfl := List.length_eq_zero_iff.1 h0
    exact Tryz.slices_Index_int_empty a cap x w
  · obtain ⟨g, o, rfl, _, hc⟩ := hc (by omega)
    have := Tryz.slices_Index_int g o xs.length cap xs x w (Nat.le_refl _) (by omega) fun j hj => by
      rw [hc j hj, List.getD_eq_getElem?_getD, List.getElem?_eq_getElem hj]
      rfl
    rw [List.take_of_length_le (Nat.le_refl _)] at this
    exact this
theorem contains_any (v : Value) (xs : List Int) (x : Int) (w : World) (hv : IntS w v xs) (hl : xs.length ≤ 1099511627776) :
    Calls Tryz.prog 42 #[v, .int .i64 x] w fun e w' => e = .returned (.bool (xs.contains x)) ∧ w' = w := by
  obtain ⟨a, cap, rfl, _, _, hc⟩ := hv
  by_cases h0 : xs.length = 0
  · obtain rfl := List.length_eq_zero_iff.1 h0
    exact Tryz.slices_Contains_int_empty a cap x w
  · obtain ⟨g, o, rfl, _, hc⟩ := hc (by omega)
    have := Tryz.slices_Contains_int g o xs.length cap xs x w (Nat.le_refl _) (by omega) fun j hj => by
      rw [hc j hj, List.getD_eq_getElem?_getD, List.getElem?_eq_getElem hj]
      rfl
    rw [List.take_of_length_le (Nat.le_refl _)] at this
    exact this
namespace Wl
theorem wide_no {xs : List Int} (h : Lib.idxOf xs 42 = -1) : wide xs = false := by
  unfold wide
  rw [h]
  rfl
theorem wide_at {xs : List Int} {k : Nat} (h : Lib.idxOf xs 42 = (k : Int)) : wide xs = ((xs.drop k).contains 63 && decide (8 < nots (xs.drop k))) := by
  unfold wide
  rw [h]
end Wl

set_option maxRecDepth 100000 in
set_option maxHeartbeats 1000000 in
theorem tooMany_any (v : Value) (xs : List Int) (w : World) (hv : IntS w v xs) (hl : xs.length ≤ 1099511627776) :
    Calls Tryz.prog 29 #[v] w fun e w' => e = .returned (.bool (Wl.wide xs)) ∧ w = w' := by
  have HI := Lib.hid (index_any v xs 42 w hv hl)
  have HV := Lib.hid hv
  obtain ⟨a, cap, rfl, _⟩ := hv
  obtain ⟨n, hn⟩ : ∃ n, n = xs.length := ⟨_, rfl⟩
  have HN := Lib.hid hn
  rw [← hn] at HI hl ⊢
  rcases Wl.idx_cases xs 42 with ⟨h1, _⟩ | ⟨k, h1, h2, _⟩
  · have hw := Lib.hid (Wl.wide_no h1)
    rw [h1] at HI
    clear hn h1
    go_enter Tryz.func29, Tryz.ntmps29
    go_wp2_with fail
    refine HI.out.mono ?_
    rintro e w' ⟨rfl, rfl⟩
    go_wp2_with fail
    go_ret
    exact ⟨ret_bool hw.out.symm, rfl⟩
  · have hw := Lib.hid (Wl.wide_at h1)
    rw [h1] at HI
    obtain ⟨g, o, rfl, hd, hc1, hc2⟩ := HV.out.drop h2
    have hdl : (xs.drop k).length ≤ 1099511627776 := by rw [List.length_drop]; omega
    have HC := Lib.hid (contains_any _ (xs.drop k) 63 w hd hdl)
    have HS := Lib.hid (notStars_any _ (xs.drop k) hdl w hd)
    have HX : Hid (Wl.nots (xs.drop k) ≤ n) := by
      show _ ≤ _
      have := Wl.nots_le (xs.drop k)
      rw [List.length_drop] at this
      omega
    rw [← hn] at HC HS h2 hc1
    generalize (xs.drop k).contains 63 = b at *
    generalize Wl.nots (xs.drop k) = t at *
    have i1 : (k : Int) < (n : Int) := by omega
    have hx := HX.out
    clear hn h1 hd hdl
    go_enter Tryz.func29, Tryz.ntmps29
    go_wp2_with fail
    refine HI.out.mono ?_
    rintro e w' ⟨rfl, rfl⟩
    go_wp2_with fail
    refine HC.out.mono ?_
    rintro e w' ⟨rfl, rfl⟩
    cases b with
    | false =>
      go_wp2_with fail
      go_ret
      exact ⟨ret_bool hw.out.symm, rfl⟩
    | true =>
      go_wp2_with fail
      refine HS.out.mono ?_
      rintro e w' ⟨rfl, rfl⟩
      by_cases h3 : 8 < t
      · have i2 : (8 : Int) < (t : Int) := by omega
        have hd : Hid (Wl.wide xs = true) := by show _ = _; rw [hw.out, decide_eq_true h3]; rfl
        clear hw
        go_wp2_with fail
        go_ret
        exact ⟨ret_bool hd.out.symm, rfl⟩
      · have i2 : ¬ (8 : Int) < (t : Int) := by omega
        have hd : Hid (Wl.wide xs = false) := by show _ = _; rw [hw.out, decide_eq_false h3]; rfl
        clear hw
        go_wp2_with fail
        go_ret
        exact ⟨ret_bool (by rw [hd.out]; exact decide_eq_false (by omega)), rfl⟩

namespace Wl
theorem begins_step {l h : List Int} {k : Nat} (hk : k < h.length) (e : l.take k = h.take k) (hl : k < l.length) (e2 : l[k] = h[k]) : l.take (k + 1) = h.take (k + 1) := by
  rw [List.take_succ_eq_append_getElem hk, List.take_succ_eq_append_getElem hl, e, e2]
theorem begins_short {l h : List Int} {k : Nat} (hk : k < h.length) (hl : l.length ≤ k) : begins l h = false := decide_eq_false fun h1 => by have := h1.1; omega
theorem begins_other {l h : List Int} {k : Nat} (hk : k < h.length) (hl : k < l.length) (e : ¬ l[k] = h[k]) : begins l h = false := decide_eq_false fun h1 => by
  have h2 := congrArg (fun x => x[k]?) h1.2
  simp only [List.getElem?_take_of_lt hk] at h2
  rw [List.getElem?_eq_getElem hl, List.getElem?_eq_getElem hk] at h2
  exact e (Option.some.inj h2)
theorem begins_all {l h : List Int} (e : l.take h.length = h.take h.length) (hl : h.length ≤ l.length) : begins l h = true := decide_eq_true ⟨hl, by rw [e, List.take_length]⟩
end Wl

set_option maxRecDepth 100000 in
set_option maxHeartbeats 1000000 in
theorem begins_any (u v : Value) (l h : List Int) (w : World) (hu : IntS w u l) (hv : IntS w v h) (_h1 : l.length ≤ 1099511627776) (h2 : h.length ≤ 1099511627776) :
    Calls Tryz.prog 13 #[u, v] w fun e w' => e = .returned (.bool (Wl.begins l h)) ∧ Below w.heap.size w w' := by
  obtain ⟨a, cap, rfl, _, _, hu⟩ := hu
  obtain ⟨a', cap', rfl, _, _, hv⟩ := hv
  have HU := Lib.hid hu
  have HV := Lib.hid hv
  clear hu hv
  obtain ⟨n, hn⟩ : ∃ n, n = h.length := ⟨_, rfl⟩
  have HN := Lib.hid hn
  obtain ⟨m, hm⟩ : ∃ m, m = l.length := ⟨_, rfl⟩
  have HM := Lib.hid hm
  rw [← hn] at h2 ⊢
  rw [← hm]
  clear hn hm
  go_enter Tryz.func13, Tryz.ntmps13
  go_wp2_with fail
  go_loopg [5] n (fun g i wx => ∃ (k : Nat), Below w.heap.size w wx ∧ k ≤ n ∧ g = n - k ∧ i = .int .i64 k ∧ k ≤ m ∧ Hid (l.take k = h.take k))
  case atStart => exact ⟨0, Below.refl _ _, Nat.zero_le _, rfl, rfl, Nat.zero_le _, rfl⟩
  case round =>
    obtain ⟨k, hbel, hk, rfl, rfl, hkm, hT⟩ := hrel
    have HBE := Lib.hid hbel
    by_cases hkn : k < n
    · have i1 : (k : Int) < (n : Int) := by omega
      have kx : k < h.length := by rw [← HN.out]; exact hkn
      by_cases hkl : k < m
      · have i2 : (k : Int) < (m : Int) := by omega
        have ky : k < l.length := by rw [← HM.out]; exact hkl
        obtain ⟨g, o, rfl, hg, hcu⟩ := HU.out (by omega)
        obtain ⟨g', o', rfl, hg', hcv⟩ := HV.out (by omega)
        have c1 := (hbel.cell (p := ⟨g, o + k, none⟩) hg).trans (hcu k ky)
        have c2 := (hbel.cell (p := ⟨g', o' + k, none⟩) hg').trans (hcv k kx)
        have d1 : decide ((m : Int) ≤ (k : Int)) = false := decide_eq_false (by omega)
        have d2 : decide (m ≤ k) = false := decide_eq_false (by omega)
        have HS := Lib.hid (fun e => Wl.begins_step kx hT.out ky e)
        have HO := Lib.hid (fun e => Wl.begins_other (l := l) kx ky e)
        clear hcu hcv hT hbel
        generalize l[k] = x at *
        generalize h[k] = y at *
        by_cases hxy : x = y
        · have hf := Lib.hid (HS.out hxy)
          have he' : (x != y) = false := by simpa using hxy
          clear HS HO hxy
          go_wp2_with fail
          go_quiet (fail)
          go_wp2_with fail
          go_roundg (n - (k + 1))
          case rel => exact ⟨k + 1, by first | exact HBE.out | exact belowN HBE.out _, by omega, rfl, by go_num, by omega, hf⟩
          case measure => omega
        · have hf := Lib.hid (HO.out hxy)
          have he' : (x != y) = true := by simpa using hxy
          clear HS HO hxy
          go_wp2_with fail
          go_quiet (fail)
          go_wp2_with fail
          go_ret
          exact ⟨ret_bool hf.out.symm, by first | exact HBE.out | exact belowN HBE.out _⟩
      · have i2 : ¬ (k : Int) < (m : Int) := by omega
        have hf := Lib.hid (Wl.begins_short (l := l) kx (by rw [← HM.out]; omega))
        have d1 : decide ((m : Int) ≤ (k : Int)) = true := decide_eq_true (by omega)
        have d2 : decide (m ≤ k) = true := decide_eq_true (by omega)
        clear hT hbel
        go_wp2_with fail
        go_quiet (fail)
        go_wp2_with fail
        go_ret
        exact ⟨ret_bool hf.out.symm, by first | exact HBE.out | exact belowN HBE.out _⟩
    · obtain rfl : k = n := by omega
      have i1 : ¬ (k : Int) < (k : Int) := by omega
      have hf : Hid (Wl.begins l h = true) := by
        have e := hT.out
        rw [HN.out] at e
        exact Wl.begins_all e (by rw [← HN.out, ← HM.out]; exact hkm)
      clear hT hbel
      go_wp2_with fail
      go_ret
      exact ⟨ret_bool hf.out.symm, HBE.out⟩
end Go.Proofs.YtmhchajdeneabaaGreatDoor

/-
  What the document's own Letters answers.
-/
namespace Go.Proofs.YtmhchajdeneabaaGreatDoor
open Go.RowKit

namespace Wl
theorem mark_step {m : List UInt8} {k : Nat} (h : k < m.length) (c : Int) : mark (m.take (k + 1)) c = (mark (m.take k) c || decide (c = (m[k].toNat : Int))) := by
  unfold mark
  rw [List.take_succ_eq_append_getElem h, List.any_append, List.any_cons, List.any_nil, Bool.or_false]
end Wl

set_option maxRecDepth 100000 in
set_option maxHeartbeats 4000000 in
theorem lettersR_any (w : World) (s m : ByteArray) (hs : s.size ≤ 17592186044415) (hms : m.size ≤ 17592186044415) : Calls Tryz.prog 7 #[.string s, .string m] w (LetPost w s.data.toList m.data.toList) := by
  have hd := foldedR_any w s hs
  have hln := Ut.decS_length s.data.toList
  rw [show s.data.toList.length = s.size from by simp] at hln
  have HE0 := Lib.hid (fun h => @Wl.letE_no s.data.toList m.data.toList h)
  have HE1 := Lib.hid (fun h => @Wl.letE_yes s.data.toList m.data.toList h)
  have HS0 := Lib.hid (fun h => @Wl.letS_no s.data.toList m.data.toList h)
  have HS1 : Hid (Wl.letE s.data.toList m.data.toList = 0 → Wl.letS s.data.toList m.data.toList = (Ut.decS s.data.toList).map Ut.fold) := fun h => if_pos h
  have HML : Hid (m.data.toList.length = m.size) := Array.length_toList
  have HMT : Hid (∀ c, Wl.mark (m.data.toList.take m.size) c = Wl.mark m.data.toList c) := fun c => by rw [List.take_of_length_le (by rw [HML.out]; exact Nat.le_refl _)]
  unfold FoldPost at hd
  unfold LetPost
  have hnl : ((Ut.decS s.data.toList).map Ut.fold).length = (Ut.decS s.data.toList).length := List.length_map _
  generalize Ut.decE s.data.toList = E at *
  generalize (Ut.decS s.data.toList).map Ut.fold = L at *
  generalize (Ut.decS s.data.toList).length = n at *
  generalize Wl.letE s.data.toList m.data.toList = E' at *
  generalize Wl.letS s.data.toList m.data.toList = S' at *
  have HD := Lib.hid hd
  have HN := Lib.hid hnl
  clear hd hnl
  go_enter Tryz.func7, Tryz.ntmps7
  go_wp2_with fail
  refine HD.out.mono ?_
  rintro e w1 ⟨v, rfl, hown, hb⟩
  obtain ⟨a, c, rfl, _⟩ := ownI_cells hown
  have HI := Lib.hid (hown.ints (by rw [HN.out]; omega))
  have HO := Lib.hid hown
  have HB := Lib.hid hb
  rw [HN.out]
  clear hown hb
  by_cases h0 : E = 0
  · subst h0
    by_cases h1 : 16 < n
    · have h2 : (16 : Int) < (n : Int) := by omega
      have he : Hid (E' = 4) := by show _ = _; rw [HE1.out rfl, if_pos h1]
      have hs' : Hid (S' = []) := HS0.out (by rw [he.out]; decide)
      clear HE0 HE1 HS0 HS1
      go_wp2_with fail
      go_ret2
      exact ⟨_, by rw [he.out]; rfl, by rw [hs'.out]; exact World.ownsRow_nil _ _ _ _, HB.out⟩
    · have h2 : ¬ (16 : Int) < (n : Int) := by omega
      by_cases h3 : n = 0
      · have he : Hid (E' = 20) := by show _ = _; rw [HE1.out rfl, if_neg h1, if_pos h3]
        have hs' : Hid (S' = []) := HS0.out (by rw [he.out]; decide)
        clear HE0 HE1 HS0 HS1
        subst h3
        go_wp2_with fail
        go_ret2
        exact ⟨_, by rw [he.out]; rfl, by rw [hs'.out]; exact World.ownsRow_nil _ _ _ _, HB.out⟩
      · have h4 : ((n : Int) == 0) = false := by simpa using h3
        have HA : Hid (E' = if L.all (Wl.okC m.data.toList) = true then 0 else 20) := by show _ = _; rw [HE1.out rfl, if_neg h1, if_neg h3]
        clear HE0 HE1
        go_wp2_with fail
        go_loopg [8] n (fun g i wx => ∃ k : Nat, Below w1.heap.size w1 wx ∧ k ≤ n ∧ g = n - k ∧ i = .int .i64 k ∧ Hid ((L.take k).all (Wl.okC m.data.toList) = true))
        case atStart => exact ⟨0, Below.refl _ _, Nat.zero_le _, rfl, rfl, rfl⟩
        case round =>
          obtain ⟨k, hbel, hk, rfl, rfl, hA⟩ := hrel
          have HBE := Lib.hid hbel
          by_cases hkn : k < n
          · have i1 : (k : Int) < (n : Int) := by omega
            have kx : k < L.length := by rw [HN.out]; exact hkn
            obtain ⟨a', cap', e', _, _, hcu⟩ := HI.out
            cases e'
            obtain ⟨g, o, rfl, hg, hcu⟩ := hcu (by omega)
            have hg1 := hg
            have c1 := (hbel.cell (p := ⟨g, o + k, none⟩) hg).trans (hcu k kx)
            have HC1 := Lib.hid (hcu k kx)
            have HL := Lib.hid (letterR_any L[k] wr)
            have HST : Hid ((L.take (k + 1)).all (Wl.okC m.data.toList) = (Ut.letter L[k] || Wl.mark m.data.toList L[k])) := by
              show _ = _
              rw [List.take_succ_eq_append_getElem kx, List.all_append, hA.out, List.all_cons, List.all_nil, Bool.and_true, Bool.true_and]
              rfl
            have HNO : Hid ((Ut.letter L[k] || Wl.mark m.data.toList L[k]) = false → L.all (Wl.okC m.data.toList) = false) := fun q => by
              rw [List.all_eq_false]
              exact ⟨L[k], List.getElem_mem kx, by rw [Wl.okC_eq, q]; simp⟩
            clear hcu hA hbel
            generalize L[k] = x at *
            have HMX := Lib.hid (HMT.out x)
            generalize Ut.letter x = b1 at *
            go_wp2_with fail
            refine HL.out.mono ?_
            rintro e w2 ⟨rfl, hb2⟩
            have HB2 : Hid (Below w1.heap.size w1 w2) := HBE.out.trans (hb2.mono HBE.out.size)
            clear hb2
            go_wp2_with fail
            go_loopg [9, 10] m.size (fun g vb vj wx => ∃ (j : Nat) (b : Bool), Below w1.heap.size w1 wx ∧ j ≤ m.size ∧ g = m.size - j ∧ vb = .bool b ∧ vj = .int .i64 j ∧ Hid (b = (b1 || Wl.mark (m.data.toList.take j) x)))
            case atStart => exact ⟨0, b1, HB2.out, Nat.zero_le _, rfl, rfl, rfl, by show _ = _; rw [List.take_zero]; cases b1 <;> rfl⟩
            case round =>
              obtain ⟨j, b, hbel, hj, rfl, rfl, rfl, hT⟩ := hrel
              have HB3 := Lib.hid hbel
              by_cases hjm : j < m.size
              · have j1 : (j : Int) < (m.size : Int) := by omega
                have ks := hjm
                have d1 := (hbel.cell (p := ⟨g, o + k, none⟩) hg1).trans HC1.out
                have HS2 := Lib.hid (Wl.mark_step (m := m.data.toList) (k := j) (by rw [HML.out]; exact ks) x)
                have hz : Hid (m.data.toList[j]'(by rw [HML.out]; exact ks) = m[j]) := rfl
                rw [hz.out] at HS2
                clear hbel hz
                cases b with
                | true =>
                  have hf : Hid (true = (b1 || Wl.mark (m.data.toList.take (j + 1)) x)) := by show _ = _; rw [HS2.out, ← Bool.or_assoc, ← hT.out]; rfl
                  clear HS2 hT
                  go_wp2_with fail
                  go_quiet (fail)
                  go_wp2_with fail
                  go_roundg (m.size - (j + 1))
                  case rel => exact ⟨j + 1, true, by first | exact HB3.out | exact belowN HB3.out _, by omega, rfl, rfl, by go_num, hf⟩
                  case measure => omega
                | false =>
                  have hy : m[j].toNat < 256 := m[j].toNat_lt
                  by_cases hxy : x = (m[j].toNat : Int)
                  · have hf : Hid (true = (b1 || Wl.mark (m.data.toList.take (j + 1)) x)) := by show _ = _; rw [HS2.out, ← Bool.or_assoc, ← hT.out, decide_eq_true hxy]; rfl
                    have he' : (x == (m[j].toNat : Int)) = true := by simpa using hxy
                    clear HS2 hT hxy
                    go_wp2_with fail
                    go_quiet (fail)
                    go_wp2_with fail
                    go_roundg (m.size - (j + 1))
                    case rel => exact ⟨j + 1, true, by first | exact HB3.out | exact belowN HB3.out _, by omega, rfl, rfl, by go_num, hf⟩
                    case measure => omega
                  · have hf : Hid (false = (b1 || Wl.mark (m.data.toList.take (j + 1)) x)) := by show _ = _; rw [HS2.out, ← Bool.or_assoc, ← hT.out, decide_eq_false hxy]; rfl
                    have he' : (x == (m[j].toNat : Int)) = false := by simpa using hxy
                    clear HS2 hT hxy
                    go_wp2_with fail
                    go_quiet (fail)
                    go_wp2_with fail
                    go_roundg (m.size - (j + 1))
                    case rel => exact ⟨j + 1, false, by first | exact HB3.out | exact belowN HB3.out _, by omega, rfl, rfl, by go_num, hf⟩
                    case measure => omega
              · have j1 : ¬ (j : Int) < (m.size : Int) := by omega
                have hfin : Hid (b = (b1 || Wl.mark m.data.toList x)) := by
                  show _ = _
                  rw [hT.out, show j = m.size by omega, HMX.out]
                clear hT hbel
                cases b with
                | true =>
                  have hf : Hid ((L.take (k + 1)).all (Wl.okC m.data.toList) = true) := by show _ = _; rw [HST.out]; exact hfin.out.symm
                  clear HST HNO
                  go_wp2_with fail
                  go_roundg (n - (k + 1))
                  case rel => exact ⟨k + 1, HB3.out, by omega, rfl, by go_num, hf⟩
                  case measure => omega
                | false =>
                  have he : Hid (E' = 20) := by show _ = _; rw [HA.out, HNO.out hfin.out.symm]; rfl
                  have hs' : Hid (S' = []) := HS0.out (by rw [he.out]; decide)
                  clear HST HNO
                  go_wp2_with fail
                  go_ret2
                  exact ⟨_, by rw [he.out]; rfl, by rw [hs'.out]; exact World.ownsRow_nil _ _ _ _, HB.out.trans (HB3.out.mono HB.out.size)⟩
          · obtain rfl : k = n := by omega
            have i1 : ¬ (k : Int) < (k : Int) := by omega
            rw [List.take_of_length_le (by rw [HN.out]; exact Nat.le_refl _)] at hA
            have he : Hid (E' = 0) := by show _ = _; rw [HA.out, hA.out]; rfl
            have hs' : Hid (S' = L) := HS1.out he.out
            have HOW : Hid (OwnI wr w.heap.size (.slice a L.length c) L) := HO.out.keep hbel (Nat.le_refl _)
            clear hA hbel
            go_wp2_with fail
            go_ret2
            exact ⟨_, by rw [he.out]; rfl, by rw [hs'.out]; have := HOW.out; rw [HN.out] at this; exact this, HB.out.trans (HBE.out.mono HB.out.size)⟩
  · have h1 : (E != 0) = true := by simpa using h0
    have he := Lib.hid (HE0.out h0)
    have hs' : Hid (S' = []) := HS0.out (by rw [he.out]; exact h0)
    clear HE0 HE1 HS0 HS1
    go_wp2_with fail
    go_ret2
    exact ⟨_, by rw [he.out]; rfl, by rw [hs'.out]; exact World.ownsRow_nil _ _ _ _, HB.out⟩
end Go.Proofs.YtmhchajdeneabaaGreatDoor

/-
  Loose states of the call's own grow: a state more, an arc more of one.
-/
namespace Go.Proofs.YtmhchajdeneabaaGreatDoor
open Go.RowKit

theorem LoO.form {w : World} {B : Nat} {v : Value} {vals : List LoV} {L : List Au.Lo} (h : LoO w B v vals L) (h0 : 0 < L.length) : ∃ g cap, v = .slice (some ⟨g, 0, none⟩) L.length cap ∧ L.length ≤ cap ∧ cap ≤ 9223372036854775807 ∧ B ≤ g ∧ g < w.heap.size ∧ (∃ c fz, w.heap[g]? = some (Obj.cells c 65 fz)) ∧ (∀ j, w.frozen? ⟨g, j, none⟩ = false) ∧
    ∀ j (h1 : j < vals.length), w.cell? ⟨g, j * 3, none⟩ = some (.bool vals[j].1) ∧ w.cell? ⟨g, j * 3 + 1, none⟩ = some vals[j].2.1 ∧ w.cell? ⟨g, j * 3 + 2, none⟩ = some vals[j].2.2 := by
  have hl := h.each.len
  rcases h.own.2 with ⟨_, h1⟩ | ⟨g, cap, cur, h1, hg, hh, hnc, hcp, hcs, htake⟩
  · omega
  · subst h1
    have hown : w.ownsRow B 65 3 (.slice (some ⟨g, 0, none⟩) L.length cap) L.length (losV vals) := h.own
    refine ⟨g, cap, rfl, hnc, by unfold maxLen at hcp; omega, hg, (hown.lt g rfl).2, ⟨_, _, hh⟩, fun j => by simp [World.frozen?, hh], fun j hj => ?_⟩
    obtain ⟨a1, a2, a3⟩ := losV_at vals j hj
    exact ⟨(hown.cellAt _ (by omega)).trans a1, (hown.cellAt _ (by omega)).trans a2, (hown.cellAt _ (by omega)).trans a3⟩
theorem LoO.kind {w : World} {B : Nat} {v : Value} {vals : List LoV} {L : List Au.Lo} (h : LoO w B v vals L) : ∀ g, v.ownBlock = some g → B ≤ g ∧ g < w.heap.size ∧ ∃ c fz, w.heap[g]? = some (Obj.cells c 65 fz) := by
  intro g hv
  refine ⟨(World.ownsRow.lt h.own g hv).1, (World.ownsRow.lt h.own g hv).2, ?_⟩
  rcases h.own.2 with ⟨h1, _⟩ | ⟨g', cap, cur, h1, hg, hh, _⟩
  · rw [h1] at hv; cases hv
  · rw [h1] at hv
    obtain rfl : g' = g := by simpa [Value.ownBlock] using hv
    exact ⟨_, _, hh⟩
theorem LoO.keep {w w' : World} {B : Nat} {v : Value} {vals : List LoV} {L : List Au.Lo} (h : LoO w B v vals L) (e : ∀ k, k < w.heap.size → w'.heap[k]? = w.heap[k]?) : LoO w' B v vals L :=
  ⟨ownsRow_keep h.own fun k hv => e k (h.kind k hv).2.1, h.each.keep fun g _ _ _ hg _ _ => e g (Array.getElem?_eq_some_iff.1 hg).1⟩
/-- A block as a row of its own cells. -/
theorem loose_new (w : World) : ∀ j u, [Value.bool false, .slice none 0 0, .slice none 0 0][j]? = some u → (w.alloc (.cells #[.bool false, .slice none 0 0, .slice none 0 0] 65)).cell? ((⟨w.heap.size, 0, none⟩ : Addr).add j) = some u := by
  intro j u hj
  match j, hj with
  | 0, hj => simp at hj; subst hj; simp [Addr.add]
  | 1, hj => simp at hj; subst hj; simp [Addr.add]
  | 2, hj => simp at hj; subst hj; simp [Addr.add]
/-- A state more, that leads nowhere yet. -/
theorem LoO.push {w w1 : World} {B : Nat} {v v' : Value} {vals : List LoV} {L : List Au.Lo} {o : Obj} (h : LoO w B v vals L)
    (h1 : w1.ownsRow B 65 3 v' (L.length + 1) (losV vals ++ [.bool false, .slice none 0 0, .slice none 0 0])) (hg : (w.alloc o).grownBy w1 v.ownBlock) : LoO w1 B v' (vals ++ [(false, .slice none 0 0, .slice none 0 0)]) (L ++ [⟨false, [], []⟩]) := by
  have hl := h.each.len
  have keep : ∀ (k : Nat) (c : Array Value) (t : TypeId) (fz : Nat × Nat), w.heap[k]? = some (Obj.cells c t fz) → t ≠ 65 → w1.heap[k]? = w.heap[k]? := fun k c t fz hk ht => by
    obtain ⟨hlk, _⟩ := Array.getElem?_eq_some_iff.1 hk
    rw [hg.block k (by simp; omega) (fun e => ?_), Go.Deep.blk_alloc_lt _ _ _ hlk]
    obtain ⟨_, _, c', fz', hc'⟩ := h.kind k e.symm
    exact kinds_neY hk hc' ht rfl
  refine ⟨?_, ?_⟩
  · rw [show losV vals ++ [Value.bool false, .slice none 0 0, .slice none 0 0] = losV (vals ++ [(false, .slice none 0 0, .slice none 0 0)]) from losV_snoc vals (false, .slice none 0 0, .slice none 0 0)] at h1
    simpa using h1
  · have h' : LoEach w1 B vals L := h.each.keep fun g c t fz hg' ht _ => keep g c t fz hg' (by rcases ht with rfl | rfl <;> decide)
    refine ⟨by simp [hl], fun j a b => ?_, fun i j hi hj hne g hgi hgj => ?_⟩
    · by_cases e : j < vals.length
      · rw [List.getElem_append_left e, List.getElem_append_left (by omega)]
        exact h'.each j e (by omega)
      · have e' : j = vals.length := by simp at a; omega
        subst e'
        have e2 : (L ++ [(⟨false, [], []⟩ : Au.Lo)])[vals.length] = ⟨false, [], []⟩ := by simp only [hl, List.getElem_append_right (Nat.le_refl _), Nat.sub_self, List.getElem_cons_zero]
        rw [e2]
        simp only [List.getElem_append_right (Nat.le_refl _), Nat.sub_self, List.getElem_cons_zero]
        exact ⟨trivial, World.ownsRow_nil _ _ _ _, World.ownsRow_nil _ _ _ _⟩
    · by_cases e1 : i < vals.length
      · rw [List.getElem_append_left e1] at hgi
        by_cases e2 : j < vals.length
        · rw [List.getElem_append_left e2] at hgj
          exact h'.apart i j e1 e2 hne g hgi hgj
        · have e' : j = vals.length := by simp at hj; omega
          subst e'
          simp [Value.ownBlock] at hgj
      · have e' : i = vals.length := by simp at hi; omega
        subst e'
        simp [Value.ownBlock] at hgi
/-- 'append(n, Loose)' of one that leads nowhere. -/
theorem wpList_pushLo {ops : Array Oper} {rest : List Oper} {o : Oper} {a : Act} {Q : Exit → Act → World → Prop} {w : World} (hgd : o.guard = none) (s x : Operand)
    (ho : o.op = .call { callee := .builtin .append, args := #[s, x], argTypes := #[59, 59] })
    (B : Nat) (v : Value) (vals : List LoV) (L : List Au.Lo) (hs : a.eval s = v) (h : LoO w B v vals L) (hB : B ≤ w.heap.size) (hx : a.eval x = .slice (some ⟨w.heap.size, 0, none⟩) 1 1) (hb : L.length + 1 ≤ 1099511627776)
    (hk : ∀ v' w', LoO w' B v' (vals ++ [(false, .slice none 0 0, .slice none 0 0)]) (L ++ [⟨false, [], []⟩]) → (w.alloc (.cells #[.bool false, .slice none 0 0, .slice none 0 0] 65)).grownBy w' v.ownBlock → wpList Tryz.prog ops Q rest (a.put o.dst v') w') :
    wpList Tryz.prog ops Q (o :: rest) a (w.alloc (.cells #[.bool false, .slice none 0 0, .slice none 0 0] 65)) := by
  obtain ⟨ii, hi, hz0, hz1, hz2⟩ := info_parts Tryz.infoLo
  refine wpList_append_own _ hgd s x 59 ho B 65 ii _ 3 56 Tryz.underlying59 hi hz0 hz1 hz2 rfl (by decide) _ _ _ hs (h.own.alloc _) ⟨w.heap.size, 0, none⟩ 1 1 [.bool false, .slice none 0 0, .slice none 0 0] hx rfl (loose_new w) ?_ (by unfold maxLen; omega) (by omega) (by simp; omega) ?_
  · intro u hu
    simp only [List.mem_cons, List.not_mem_nil, or_false] at hu
    rcases hu with rfl | rfl | rfl <;> rfl
  · intro v' w' h1 h2 _
    exact hk v' w' (h.push h1 h2) h2
/-- An arc more of a state: its list has grown, and is stored. -/
theorem LoO.arc {w w1 : World} {B G cap p : Nat} {vals : List LoV} {L : List Au.Lo} {v5 : Value} {arc : Au.Arc} (h : LoO w B (.slice (some ⟨G, 0, none⟩) L.length cap) vals L) (hp : p < L.length) (hpv : p < vals.length)
    (h1 : OwnA w1 B v5 (L[p].arcs ++ [arc])) (keep : ∀ g, g < w.heap.size → vals[p].2.1.ownBlock ≠ some g → w1.heap[g]? = w.heap[g]?) (hnew : ∀ g, v5.ownBlock = some g → vals[p].2.1.ownBlock = some g ∨ w.heap.size ≤ g) :
    LoO (w1.setCell ⟨G, p * 3 + 1, none⟩ v5) B (.slice (some ⟨G, 0, none⟩) L.length cap) (vals.set p (vals[p].1, v5, vals[p].2.2)) (Sp.addArc L p arc) ∧
      (∀ (g : Nat) (c : Array Value) (t : TypeId) (fz : Nat × Nat), w.heap[g]? = some (Obj.cells c t fz) → t ≠ 65 → t ≠ 71 → (w1.setCell ⟨G, p * 3 + 1, none⟩ v5).heap[g]? = w.heap[g]?) ∧
      (∀ g, g < B → g < w.heap.size → (w1.setCell ⟨G, p * 3 + 1, none⟩ v5).heap[g]? = w.heap[g]?) ∧ w1.heap[G]? = w.heap[G]? := by
  have hl := h.each.len
  obtain ⟨hGB, hGl, cG, fzG, hG⟩ := h.kind G rfl
  obtain ⟨q1, q2, q3⟩ := h.each.each p hpv hp
  have hrow : ∀ g, vals[p].2.1.ownBlock = some g → ∃ c fz, w.heap[g]? = some (Obj.cells c 71 fz) := q2.kind
  have keepT : ∀ (g : Nat) (c : Array Value) (t : TypeId) (fz : Nat × Nat), w.heap[g]? = some (Obj.cells c t fz) → t ≠ 71 → w1.heap[g]? = w.heap[g]? := fun g c t fz hg' ht => keep g (Array.getElem?_eq_some_iff.1 hg').1 fun e => by
    obtain ⟨c', fz', hc'⟩ := hrow g e
    exact kinds_neY hg' hc' ht rfl
  have hG1 := keepT G cG _ fzG hG (by decide)
  have far : ∀ g, g ≠ G → (w1.setCell ⟨G, p * 3 + 1, none⟩ v5).heap[g]? = w1.heap[g]? := fun g hne => Go.Deep.blk_setCell_other _ _ _ _ hne
  refine ⟨⟨?_, ?_⟩, fun g c t fz hg' h2 h3 => (far g (kinds_neY hg' hG h2)).trans (keepT g c t fz hg' h3), fun g hgB hgl => (far g (by omega)).trans (keep g hgl fun e => by have := (q2.lt g e).1; omega), hG1⟩
  · have hown1 : w1.ownsRow B 65 3 (.slice (some ⟨G, 0, none⟩) L.length cap) L.length (losV vals) := ownsRow_keep h.own fun k hk => by
      obtain rfl : G = k := by simpa [Value.ownBlock] using hk
      exact hG1
    have hs := (hown1.stored (p * 3 + 1) v5).1
    have e : (losV vals).set (p * 3 + 1) v5 = losV (vals.set p (vals[p].1, v5, vals[p].2.2)) := by
      clear hs hown1 h1 hnew keep keepT far hrow q1 q2 q3 h hl hp
      induction vals generalizing p with
      | nil => simp at hpv
      | cons x t ih =>
        cases p with
        | zero => rfl
        | succ p =>
          have hp' : p < t.length := by simpa using hpv
          have := ih hp'
          simp only [List.set_cons_succ, List.getElem_cons_succ]
          show (_ :: _ :: _ :: losV t).set ((p + 1) * 3 + 1) v5 = _ :: _ :: _ :: losV _
          rw [show (p + 1) * 3 + 1 = p * 3 + 1 + 1 + 1 + 1 by omega, List.set_cons_succ, List.set_cons_succ, List.set_cons_succ, this]
    rw [e] at hs
    rw [Sp.addArc_length]
    exact hs
  · have hset : ∀ j (hj : j < (vals.set p (vals[p].1, v5, vals[p].2.2)).length), (vals.set p (vals[p].1, v5, vals[p].2.2))[j] = if p = j then (vals[p].1, v5, vals[p].2.2) else vals[j]'(by simpa using hj) := fun j hj => by rw [List.getElem_set]
    have hadd : ∀ j (hj : j < (Sp.addArc L p arc).length), (Sp.addArc L p arc)[j] = if p = j then ⟨(L[j]'(by simpa [Sp.addArc_length] using hj)).fin, (L[j]'(by simpa [Sp.addArc_length] using hj)).arcs ++ [arc], (L[j]'(by simpa [Sp.addArc_length] using hj)).free⟩ else L[j]'(by simpa [Sp.addArc_length] using hj) := fun j hj => by
      have := Sp.addArc_at L p arc j
      rw [List.getElem?_eq_getElem hj, List.getElem?_eq_getElem (by simpa [Sp.addArc_length] using hj)] at this
      simpa using this
    have hkind1 : ∀ g, v5.ownBlock = some g → g ≠ G := fun g hg' e => by
      obtain ⟨c, fz, hc⟩ := h1.kind g hg'
      rw [e, hG1, hG] at hc
      injection hc with hc
      injection hc with _ h2
      exact absurd h2 (by decide)
    refine ⟨by rw [List.length_set, Sp.addArc_length]; exact hl, fun j a b => ?_, fun i j hi hj hne g hgi hgj => ?_⟩
    · rw [hset j a, hadd j b]
      have ha : j < vals.length := by simpa using a
      obtain ⟨r1, r2, r3⟩ := h.each.each j ha (by omega)
      have hf3 : OwnZ (w1.setCell ⟨G, p * 3 + 1, none⟩ v5) B vals[j].2.2 (L[j]'(by omega)).free := ownsRow_keep r3 fun k hk => by
        obtain ⟨_, hkl, c, fz, hc⟩ := r3.kind k hk
        rw [far k (kinds_neY hc hG (by decide)), keepT k c _ fz hc (by decide)]
      by_cases e : p = j
      · subst e
        rw [if_pos rfl, if_pos rfl]
        exact ⟨r1, h1.keep fun k hk => far k (hkind1 k hk), hf3⟩
      · rw [if_neg e, if_neg e]
        refine ⟨r1, r2.keep fun k hk => ?_, hf3⟩
        obtain ⟨c, fz, hc⟩ := r2.kind k hk
        rw [far k (kinds_neY hc hG (by decide)), keep k (r2.lt k hk).2 fun e2 => h.each.apart p j hpv ha e k e2 hk]
    · have hi' : i < vals.length := by simpa using hi
      have hj' : j < vals.length := by simpa using hj
      rw [hset i hi] at hgi
      rw [hset j hj] at hgj
      have old : ∀ k (hk : k < vals.length) g, vals[k].2.1.ownBlock = some g → g < w.heap.size := fun k hk g hg' => ((h.each.each k hk (by omega)).2.1.lt g hg').2
      by_cases e1 : p = i
      · rw [if_pos e1] at hgi
        have e2 : ¬ p = j := fun e => hne (e1.symm.trans e)
        rw [if_neg e2] at hgj
        rcases hnew g hgi with hn | hn
        · exact h.each.apart p j hpv hj' e2 g hn hgj
        · have := old j hj' g hgj
          omega
      · rw [if_neg e1] at hgi
        by_cases e2 : p = j
        · rw [if_pos e2] at hgj
          rcases hnew g hgj with hn | hn
          · exact h.each.apart p i hpv hi' e1 g hn hgi
          · have := old i hi' g hgi
            omega
        · rw [if_neg e2] at hgj
          exact h.each.apart i j hi' hj' hne g hgi hgj
end Go.Proofs.YtmhchajdeneabaaGreatDoor

/-
  What leadBy answers: the texts of a row lead from one state to another.
-/
namespace Go.Proofs.YtmhchajdeneabaaGreatDoor
open Go.RowKit

/-- What is neither a list of loose states nor one of arcs is as it was. -/
def KeptT (w w' : World) : Prop := ∀ (g : Nat) (c : Array Value) (t : TypeId) (fz : Nat × Nat), w.heap[g]? = some (Obj.cells c t fz) → t ≠ 65 → t ≠ 71 → w'.heap[g]? = w.heap[g]?
theorem KeptT.refl (w : World) : KeptT w w := fun _ _ _ _ _ _ _ => rfl
theorem KeptT.trans {w w' w'' : World} (h : KeptT w w') (k : KeptT w' w'') : KeptT w w'' := fun g c t fz hg h1 h2 => by
  have e := h g c t fz hg h1 h2
  exact (k g c t fz (e.trans hg) h1 h2).trans e
theorem KeptT.row {w w' : World} (h : KeptT w w') {g : Nat} {r : List (Int × Int)} (hr : RowG w g r) : RowG w' g r := by
  obtain ⟨c, fz, hc⟩ := hr.kind
  exact hr.of_block (h g c _ fz hc (by decide) (by decide))
theorem KeptT.alloc (w : World) (o : Obj) : KeptT w (w.alloc o) := fun _ _ _ _ hg _ _ => Go.Deep.blk_alloc_lt _ _ _ (Array.getElem?_eq_some_iff.1 hg).1
/-- One arc more, in a region that draws its order. -/
theorem step_pushA {ops : Array Oper} {o : Oper} {a : Act} {K : Act → World → Prop} {Q : Exit → Act → World → Prop} {E : Prop} {w W0 : World} (hgd : o.guard = none) (s x : Operand)
    (ho : o.op = .call { callee := .builtin .append, args := #[s, x], argTypes := #[48, 48] }) (B : Nat) (v : Value) (l : List Au.Arc) (hs : a.eval s = v) (h : OwnA w B v l) (hW : Below w.heap.size w W0) (hB : B ≤ w.heap.size) (p q r : Int)
    (ad : Addr) (hnews : ∀ j u, [Value.int .i64 p, .int .i64 q, .int .i64 r][j]? = some u → W0.cell? (ad.add j) = some u) (hx : a.eval x = .slice (some ad) 1 1) (hb : l.length + 1 ≤ 1099511627776)
    (hk : ∀ g cap w', OwnA w' B (.slice (some ⟨g, 0, none⟩) (l.length + 1) cap) (l ++ [⟨p, q, r⟩]) → W0.grownBy w' v.ownBlock → (v.ownBlock = some g ∨ w.heap.size ≤ g) → K (a.put o.dst (.slice (some ⟨g, 0, none⟩) (l.length + 1) cap)) w') :
    if Region.wanted o (yielded ops a.tmps) = true then Oper.wp Tryz.prog o a W0 K Q else E := by
  obtain ⟨ii, hi, hz0, hz1, hz2⟩ := info_parts Tryz.infoA
  have hlt := h.lt
  refine step_append_lies _ hgd s x 48 ho B 71 ii _ 3 24 Tryz.underlying48 hi hz0 hz1 hz2 rfl (by decide) v l.length (arcsV l) hs (ownsRow_keep h fun k hk => hW.block k (hlt k hk).2) ad 1 1 [.int .i64 p, .int .i64 q, .int .i64 r] hx rfl hnews (one_arc p q r) (by omega) (by unfold maxLen; omega) (by omega) (Nat.le_trans hB hW.size) _ rfl ?_
  intro g cap w' h2 h3 h4 _
  refine hk g cap w' ?_ h3 ?_
  · unfold OwnA
    rw [arcsV_snoc l ⟨p, q, r⟩] at h2
    simpa using h2
  · rcases h4 with h4 | h4
    · exact .inl h4
    · have := hW.size
      exact .inr (by omega)
theorem new_arcD (w : World) (a b c : Int) : ∀ j u, [Value.int .i64 a, .int .i64 b, .int .i64 c][j]? = some u → ((w.alloc (.cells #[.int .i64 a, .int .i64 b, .int .i64 c] 71)).drew).cell? ((⟨w.heap.size, 0, none⟩ : Addr).add j) = some u := fun j u h => new_arc w a b c j u h
namespace Sp
theorem drop_last {row : List (Int × Int)} {i : Nat} (h : i + 1 = row.length) : row.drop i = [row[i]'(by omega)] := by
  rw [List.drop_eq_getElem_cons (by omega), List.drop_of_length_le (by omega)]
theorem drop_more {row : List (Int × Int)} {i : Nat} (h : i + 1 < row.length) : ∃ r' rs, row.drop i = row[i]'(by omega) :: r' :: rs ∧ row.drop (i + 1) = r' :: rs := by
  rw [List.drop_eq_getElem_cons (by omega)]
  exact ⟨row[i + 1], row.drop (i + 2), by rw [List.drop_eq_getElem_cons h], by rw [List.drop_eq_getElem_cons h]⟩
theorem addArc_arcs {n : List Au.Lo} {p : Nat} {a : Au.Arc} {X : Nat} (h : ∀ s ∈ n, s.arcs.length ≤ X) : ∀ s ∈ addArc n p a, s.arcs.length ≤ X + 1 := by
  intro s hs
  obtain ⟨i, hi⟩ := List.mem_iff_getElem?.1 hs
  rw [addArc_at] at hi
  obtain ⟨s0, h0, rfl⟩ := Option.map_eq_some_iff.1 hi
  have := h s0 (List.mem_of_getElem? h0)
  split
  · simp; omega
  · omega
end Sp

theorem v_form {w : World} {B nl : Nat} {v : Value} {vals : List LoV} {n : List Au.Lo} {s : Au.Lo} (h : LoO w B v vals (n ++ [s])) (hn : nl = n.length) : ∃ a cp, v = .slice a (nl + 1) cp := by
  obtain ⟨g4, cp4, e4, _⟩ := h.form (by simp)
  rw [e4]
  exact ⟨some ⟨g4, 0, none⟩, cp4, by simp [hn]⟩
set_option maxRecDepth 100000 in
set_option maxHeartbeats 4000000 in
theorem leadBy_any (w : World) (B : Nat) (v : Value) (vals : List LoV) (L : List Au.Lo) (h : LoO w B v vals L) (p q g m : Nat) (row : List (Int × Int)) (hp : p < L.length) (hrow : RowG w g row) (hm : row.length = m) (hm4 : m ≤ 4) (hL : L.length ≤ 1000000) (X : Nat) (hX : ∀ s ∈ L, s.arcs.length ≤ X) (hX2 : X ≤ 549755813888) (hB : B ≤ w.heap.size) (hbd : ∀ r ∈ row, 0 ≤ r.1 ∧ r.1 ≤ r.2 ∧ r.2 ≤ 255) :
    Calls Tryz.prog 50 #[v, .int .i64 p, .int .i64 q, .slice (some ⟨g, 0, none⟩) m m] w fun e w' => ∃ v' vals', e = .returned v' ∧ LoO w' B v' vals' (Sp.leadBy q L p row) ∧ Below B w w' ∧ KeptT w w' := by
  have HM := Lib.hid hm
  have HR := Lib.hid hrow
  have HO := Lib.hid h
  have HX := Lib.hid hX
  have HBD := Lib.hid hbd
  clear hm hrow h hX hbd
  go_enter Tryz.func50, Tryz.ntmps50
  go_wp2_with fail
  go_loopg [0, 1, 14] m (fun g' s0 s1 s14 wx => ∃ (i pp : Nat) (vv : Value) (vals : List LoV) (n : List Au.Lo), i ≤ m ∧ g' = m - i ∧ vv = s0 ∧ s1 = .int .i64 pp ∧ s14 = .int .i64 i ∧ n.length ≤ L.length + i ∧ Hid (i < m → pp < n.length) ∧ Hid (LoO wx B vv vals n) ∧ Hid (Sp.leadBy q n pp (row.drop i) = Sp.leadBy q L p row) ∧ Hid (∀ s ∈ n, s.arcs.length ≤ X + i) ∧ Hid (Below B w wx) ∧ Hid (KeptT w wx))
  case atStart => exact ⟨0, p, _, vals, L, Nat.zero_le _, rfl, rfl, rfl, rfl, Nat.le_refl _, fun _ => hp, HO, rfl, HX, Below.refl _ _, KeptT.refl _⟩
  case round =>
    obtain ⟨i, pp, vv, vals, n, hi, rfl, rfl, rfl, rfl, hnl, hpp, hO, hE, hXi, hbel, hkt⟩ := hrel
    by_cases him : i < m
    · have j1 : (i : Int) < (m : Int) := by omega
      have hir : i < row.length := by rw [HM.out]; exact him
      have hpn := hpp.out him
      have HRW := Lib.hid (hkt.out.row HR.out)
      obtain ⟨c1, c2⟩ := HRW.out.cells i hir
      obtain ⟨x1, x2, x3⟩ := HBD.out row[i] (List.getElem_mem hir)
      have HSZ : Hid (B ≤ wr.heap.size) := Nat.le_trans hB hbel.out.size
      have HDL : Hid (i + 1 = m → row.drop i = [row[i]]) := fun e => Sp.drop_last (by rw [HM.out]; exact e)
      have HDM : Hid (i + 1 < m → ∃ r' rs, row.drop i = row[i] :: r' :: rs ∧ row.drop (i + 1) = r' :: rs) := fun e => Sp.drop_more (by rw [HM.out]; exact e)
      generalize row[i] = r at *
      obtain ⟨lo, hi'⟩ := r
      dsimp only at *
      have HBK : Hid ((wr.alloc (.cells #[.int .i64 lo, .int .i64 hi'] 101)).heap[wr.heap.size]? = some (Obj.cells #[.int .i64 lo, .int .i64 hi'] 101 (0, 0))) := Go.Deep.blk_alloc_new _ _
      have HO1 : Hid (LoO (wr.alloc (.cells #[.int .i64 lo, .int .i64 hi'] 101)) B vv vals n) := hO.out.keep fun k hk => Go.Deep.blk_alloc_lt _ _ _ hk
      have HB1 : Hid (Below B w (wr.alloc (.cells #[.int .i64 lo, .int .i64 hi'] 101))) := hbel.out.alloc HSZ.out _
      have HK1 : Hid (KeptT w (wr.alloc (.cells #[.int .i64 lo, .int .i64 hi'] 101))) := hkt.out.trans (KeptT.alloc _ _)
      obtain ⟨nl, hnle⟩ : ∃ nl, nl = n.length := ⟨_, rfl⟩
      have HNL := Lib.hid hnle
      obtain ⟨a0, cp0, rfl⟩ : ∃ a cp, vv = .slice a nl cp := by
        rw [hnle]
        obtain ⟨g0, cp0, h1, _⟩ := hO.out.form (by omega)
        exact ⟨_, _, h1⟩
      rw [← hnle] at hpn hnl
      clear hnle hO hbel hkt
      by_cases hlast : i + 1 = m
      case' pos =>
        have j2 : ¬ (i : Int) < (m : Int) - 1 := by omega
        go_wp2_with fail
        obtain ⟨bx, hbx⟩ : ∃ b, b = wr.heap.size := ⟨_, rfl⟩
        have HBX : Hid (B ≤ bx) := by show _ ≤ _; rw [hbx]; exact HSZ.out
        rw [← hbx] at HBK ⊢
        clear c1 c2 hbx
        generalize wr.alloc (.cells #[.int .i64 lo, .int .i64 hi'] 101) = wa at *
        obtain ⟨nx, hnx⟩ : ∃ nx, nx = q := ⟨_, rfl⟩
        have HEQ : Hid (Sp.leadBy q (Sp.addArc n pp ⟨lo, hi', (nx : Int)⟩) nx (row.drop (i + 1)) = Sp.leadBy q L p row) := by
          have e1 : row.drop (i + 1) = [] := List.drop_of_length_le (by rw [HM.out]; omega)
          show _ = _
          rw [← hE.out, HDL.out hlast, e1, hnx]
          rfl
        have HLT : Hid (i + 1 < m → nx < n.length) := fun e => by omega
        have HNB : nl ≤ L.length + (i + 1) := by omega
        rw [← hnx]
        have HNQ := Lib.hid hnx
        clear hnx
      case' neg =>
        have j2 : (i : Int) < (m : Int) - 1 := by omega
        have HPU := Lib.hid (fun (w' : World) (v' : Value) (hk : LoO w' B v' (vals ++ [(false, .slice none 0 0, .slice none 0 0)]) (n ++ [⟨false, [], []⟩])) => hk.form (by simp))
        go_wp2_with (at_builtin; go_loud ((refine wpList_pushLo rfl _ _ rfl B (.slice a0 nl cp0) vals n rfl HO1.out (Nat.le_trans HSZ.out (by simp)) (by rw [World.size_alloc]; rfl) (by have := HNL.out; omega) ?_)); intro v4 w4 ho4 hg4; have HG4 := Lib.hid hg4; obtain ⟨a0, cp0, rfl⟩ : ∃ a cp, v4 = .slice a (nl + 1) cp := v_form ho4 HNL.out; have HO4 := Lib.hid ho4; clear ho4 hg4)
        obtain ⟨bx, hbx⟩ : ∃ b, b = wr.heap.size := ⟨_, rfl⟩
        have HBX : Hid (B ≤ bx) := by show _ ≤ _; rw [hbx]; exact HSZ.out
        rw [← hbx] at HBK ⊢
        clear c1 c2 hbx
        generalize wr.alloc (.cells #[.int .i64 lo, .int .i64 hi'] 101) = wb at *
        have hkT : KeptT wb w4 := fun g c t fz hg h1 h2 => by
          have hgl := (Array.getElem?_eq_some_iff.1 hg).1
          refine (HG4.out.block g (by simp; omega) (fun e => ?_)).trans (Go.Deep.blk_alloc_lt _ _ _ hgl)
          obtain ⟨_, _, c', fz', hc'⟩ := HO1.out.kind g e.symm
          exact kinds_neY hg hc' h1 rfl
        have HBK2 : Hid (w4.heap[bx]? = some (Obj.cells #[.int .i64 lo, .int .i64 hi'] 101 (0, 0))) := (hkT bx _ _ _ HBK.out (by decide) (by decide)).trans HBK.out
        have HB4 : Hid (Below B w w4) := (HB1.out.alloc (Nat.le_trans hB HB1.out.size) _).grown HG4.out (by have := HB1.out.size; simp; omega) (fun j hj => (HO1.out.kind j hj).1)
        have HK4 : Hid (KeptT w w4) := HK1.out.trans hkT
        clear hkT HBK HO1 HB1 HK1 HG4
        have HBK := HBK2
        have HB1 := HB4
        have HK1 := HK4
        have HO1 := HO4
        clear HBK2 HB4 HK4 HO4
        have HEQ : Hid (Sp.leadBy q (Sp.addArc (n ++ [⟨false, [], []⟩]) pp ⟨lo, hi', (nl : Int)⟩) nl (row.drop (i + 1)) = Sp.leadBy q L p row) := by
          obtain ⟨r', rs, e1, e2⟩ := HDM.out (by omega)
          show _ = _
          rw [← hE.out, e1, e2, HNL.out]
          rfl
        have HLT : Hid (i + 1 < m → nl < (n ++ [(⟨false, [], []⟩ : Au.Lo)]).length) := fun e => by
          have := HNL.out
          simp
          omega
        have HXn : Hid (∀ s ∈ n ++ [(⟨false, [], []⟩ : Au.Lo)], s.arcs.length ≤ X + i) := fun s hs => by
          rcases List.mem_append.1 hs with hs | hs
          · exact hXi.out s hs
          · rw [List.mem_singleton.1 hs]; simp
        have HNL2 : Hid (nl + 1 = (n ++ [(⟨false, [], []⟩ : Au.Lo)]).length) := by show _ = _; rw [HNL.out]; simp
        have HNB : nl + 1 ≤ L.length + (i + 1) := by omega
        have hpn2 : pp < nl + 1 := by omega
        clear hXi HNL hnl hpn hE HDM HDL HPU hpp
        have hXi := HXn
        have HNL := HNL2
        have hpn := hpn2
        clear HXn HNL2 hpn2
        generalize n ++ [(⟨false, [], []⟩ : Au.Lo)] = n at *
        generalize vals ++ [(false, Value.slice none 0 0, Value.slice none 0 0)] = vals at *
        generalize nl + 1 = nk at *
        obtain ⟨nx, rfl⟩ : ∃ x : Nat, x = nl := ⟨_, rfl⟩
        obtain ⟨nl, rfl⟩ : ∃ x : Nat, x = nk := ⟨_, rfl⟩
        obtain ⟨wa, rfl⟩ : ∃ x : World, x = w4 := ⟨_, rfl⟩
      all_goals
        have hpv : pp < vals.length := by rw [HO1.out.each.len, ← HNL.out]; exact hpn
        have hpn3 : pp < n.length := by rw [← HNL.out]; exact hpn
        obtain ⟨q1, q2, q3⟩ := HO1.out.each.each pp hpv hpn3
        obtain ⟨G, cp, e0, _, _, hGB, hGl, hGk, hGf, hGc⟩ := HO1.out.form (by omega)
        obtain ⟨rfl, rfl⟩ : a0 = some ⟨G, 0, none⟩ ∧ cp0 = cp := by
          injection e0 with e1 e2 e3
          exact ⟨e1, e3⟩
        obtain ⟨_, d7, _⟩ := hGc pp hpv
        have df := hGf (pp * 3 + 1)
        have HQ2 := Lib.hid q2
        have HXp : Hid (n[pp].arcs.length ≤ X + i) := hXi.out _ (List.getElem_mem hpn3)
        have HARC := Lib.hid (fun (w1 : World) (v5 : Value) (arc : Au.Arc) => LoO.arc (w1 := w1) (v5 := v5) (arc := arc) (by rw [← HNL.out]; exact HO1.out) hpn3 hpv)
        have HARCS := Lib.hid (fun (a : Au.Arc) => Sp.addArc_arcs (p := pp) (a := a) hXi.out)
        have HAL := Lib.hid (fun (a : Au.Arc) => Sp.addArc_length n pp a)
        generalize n[pp].arcs = l at *
        have HVJ : Hid (∃ vj, vj = vals[pp].2.1) := ⟨_, rfl⟩
        obtain ⟨vj, hvj⟩ := HVJ.out
        rw [← hvj] at d7 HQ2 HARC
        clear hvj HVJ q1 q2 q3 e0 hGc hGf
        have b0 : wa.cell? ⟨bx, 0, none⟩ = some (.int .i64 lo) := by simp [World.cell?, HBK.out]
        have b1 : wa.cell? ⟨bx, 1, none⟩ = some (.int .i64 hi') := by simp [World.cell?, HBK.out]
        have hbxl : bx < wa.heap.size := (Array.getElem?_eq_some_iff.1 HBK.out).1
        have HSA : Hid (∀ W : World, W.heap[bx]? = wa.heap[bx]? → W.cell? ⟨bx, 0, none⟩ = some (.int .i64 lo) ∧ W.cell? ⟨bx, 1, none⟩ = some (.int .i64 hi')) := fun W e => by
          rw [HBK.out] at e
          exact ⟨by simp [World.cell?, e], by simp [World.cell?, e]⟩
        have HDN : Hid (((wa.alloc (.cells #[.int .i64 lo, .int .i64 hi', .int .i64 (nx : Int)] 71)).drew).cell? ⟨bx, 0, none⟩ = some (.int .i64 lo) ∧ ((wa.alloc (.cells #[.int .i64 lo, .int .i64 hi', .int .i64 (nx : Int)] 71)).drew).cell? ⟨bx, 1, none⟩ = some (.int .i64 hi')) := HSA.out _ (Go.Deep.blk_alloc_lt _ _ _ hbxl)
        have hq0 := HDN.out.1
        have hq1 := HDN.out.2
        have g7 : ((wa.alloc (.cells #[.int .i64 lo, .int .i64 hi', .int .i64 (nx : Int)] 71)).drew).cell? ⟨G, pp * 3 + 1, none⟩ = some vj := (World.cell?_of_block (w := wa) (a := ⟨G, pp * 3 + 1, none⟩) (Go.Deep.blk_alloc_lt _ _ _ hGl)).trans d7
        have hBE : Hid (Below wa.heap.size wa ((wa.alloc (.cells #[.int .i64 lo, .int .i64 hi', .int .i64 (nx : Int)] 71)).drew)) := ((Below.refl _ _).alloc (Nat.le_refl _) _).drew
        have hnw := Lib.hid (new_arcD wa lo hi' (nx : Int))
        have HBW : Hid (B ≤ wa.heap.size) := Nat.le_trans hB HB1.out.size
        have HGB := Lib.hid hGB
        have i6 : (pp : Int) < (nl : Int) := by omega
        clear hGB hGl hGk
        refine wp_region_held_drew (S := fun wx => wx.cell? ⟨bx, 0, none⟩ = some (.int .i64 lo) ∧ wx.cell? ⟨bx, 1, none⟩ = some (.int .i64 hi')) (by kernel_rfl) ⟨b0, b1⟩ (fun hHeld => ?_)
        refine wpAnyH_take (i := 0) (fuel := 17) (oi := ⟨_, _, _, _, _, _⟩) (v := ?_) rfl (by kernel_rfl) (by kernel_rfl) (by kernel_rfl) (fun _ _ _ h => h) (Or.inl ⟨by rfl, ?_⟩) (by assumption) ?_
        rotate_left
        · intro w _
          first | (go_simp; done) | (go_simp; with_reducible rfl)
        simp only [Act.put, List.setIfInBounds_toArray, List.set_cons_zero, List.set_cons_succ]
        refine wpAnyH_take (i := 1) (fuel := 16) (oi := ⟨_, _, _, _, _, _⟩) (v := ?_) rfl (by kernel_rfl) (by kernel_rfl) (by kernel_rfl) (fun _ _ _ h => h) (Or.inl ⟨by rfl, ?_⟩) (by assumption) ?_
        rotate_left
        · intro w _
          first | (go_simp; done) | (go_simp; with_reducible rfl)
        simp only [Act.put, List.setIfInBounds_toArray, List.set_cons_zero, List.set_cons_succ]
        refine wpAnyH_take (i := 2) (fuel := 15) (oi := ⟨_, _, _, _, _, _⟩) (v := ?_) rfl (by kernel_rfl) (by kernel_rfl) (by kernel_rfl) (fun _ _ _ h => h) (Or.inl ⟨by rfl, ?_⟩) (by assumption) ?_
        rotate_left
        · intro w _
          first | (go_simp; done) | (go_simp; with_reducible rfl)
        simp only [Act.put, List.setIfInBounds_toArray, List.set_cons_zero, List.set_cons_succ]
        refine wpAnyH_take (i := 3) (fuel := 14) (oi := ⟨_, _, _, _, _, _⟩) (v := ?_) rfl (by kernel_rfl) (by kernel_rfl) (by kernel_rfl) (fun _ _ _ h => h) (Or.inl ⟨by rfl, ?_⟩) (by assumption) ?_
        rotate_left
        · intro w _
          first | (go_simp; done) | (go_simp; with_reducible rfl)
        simp only [Act.put, List.setIfInBounds_toArray, List.set_cons_zero, List.set_cons_succ]
        refine wpAnyH_take (i := 4) (fuel := 13) (oi := ⟨_, _, _, _, _, _⟩) (v := ?_) rfl (by kernel_rfl) (by kernel_rfl) (by kernel_rfl) (fun _ _ _ h => h) (Or.inl ⟨by rfl, ?_⟩) (by assumption) ?_
        rotate_left
        · intro w _
          first | (go_simp; done) | (go_simp; with_reducible rfl)
        simp only [Act.put, List.setIfInBounds_toArray, List.set_cons_zero, List.set_cons_succ]
        refine wpAnyH_take (i := 5) (fuel := 12) (oi := ⟨_, _, _, _, _, _⟩) (v := ?_) rfl (by kernel_rfl) (by kernel_rfl) (by kernel_rfl) (fun _ _ _ h => h) (Or.inl ⟨by rfl, ?_⟩) (by assumption) ?_
        rotate_left
        · intro w _
          first | (go_simp; done) | (go_simp; with_reducible rfl)
        simp only [Act.put, List.setIfInBounds_toArray, List.set_cons_zero, List.set_cons_succ]
        refine wpAnyH_take (i := 7) (fuel := 11) (oi := ⟨_, _, _, _, _, _⟩) (v := ?_) rfl (by kernel_rfl) (by kernel_rfl) (by kernel_rfl) (fun _ _ _ h => h) (Or.inl ⟨by rfl, ?_⟩) (by assumption) ?_
        rotate_left
        · intro w _
          first | (go_simp; done) | (go_simp; with_reducible rfl)
        simp only [Act.put, List.setIfInBounds_toArray, List.set_cons_zero, List.set_cons_succ]
        refine wpAnyH_take (i := 8) (fuel := 10) (oi := ⟨_, _, _, _, _, _⟩) (v := ?_) rfl (by kernel_rfl) (by kernel_rfl) (by kernel_rfl) (fun _ _ _ h => h) (Or.inl ⟨by rfl, ?_⟩) (by assumption) ?_
        rotate_left
        · intro w hSw
          obtain ⟨h1, _⟩ := hSw
          first | (go_simp; done) | (go_simp; with_reducible rfl)
        simp only [Act.put, List.setIfInBounds_toArray, List.set_cons_zero, List.set_cons_succ]
        refine wpAnyH_take (i := 9) (fuel := 9) (oi := ⟨_, _, _, _, _, _⟩) (v := ?_) rfl (by kernel_rfl) (by kernel_rfl) (by kernel_rfl) (fun _ _ _ h => h) (Or.inl ⟨by rfl, ?_⟩) (by assumption) ?_
        rotate_left
        · intro w _
          first | (go_simp; done) | (go_simp; with_reducible rfl)
        simp only [Act.put, List.setIfInBounds_toArray, List.set_cons_zero, List.set_cons_succ]
        refine wpAnyH_take (i := 10) (fuel := 8) (oi := ⟨_, _, _, _, _, _⟩) (v := ?_) rfl (by kernel_rfl) (by kernel_rfl) (by kernel_rfl) (fun _ _ _ h => h) (Or.inl ⟨by rfl, ?_⟩) (by assumption) ?_
        rotate_left
        · intro w hSw
          obtain ⟨_, h2⟩ := hSw
          first | (go_simp; done) | (go_simp; with_reducible rfl)
        simp only [Act.put, List.setIfInBounds_toArray, List.set_cons_zero, List.set_cons_succ]
        refine wpAnyH_take (i := 11) (fuel := 7) (oi := ⟨_, _, _, _, _, _⟩) (v := ?_) rfl (by kernel_rfl) (by kernel_rfl) (by kernel_rfl) (fun _ _ _ h => h) (Or.inl ⟨by rfl, ?_⟩) (by assumption) ?_
        rotate_left
        · intro w _
          first | (go_simp; done) | (go_simp; with_reducible rfl)
        simp only [Act.put, List.setIfInBounds_toArray, List.set_cons_zero, List.set_cons_succ]
        refine wpAnyH_take (i := 12) (fuel := 6) (oi := ⟨_, _, _, _, _, _⟩) (v := ?_) rfl (by kernel_rfl) (by kernel_rfl) (by kernel_rfl) (fun _ _ _ h => h) (Or.inl ⟨by rfl, ?_⟩) (by assumption) ?_
        rotate_left
        · intro w _
          first | (go_simp; done) | (go_simp; with_reducible rfl)
        simp only [Act.put, List.setIfInBounds_toArray, List.set_cons_zero, List.set_cons_succ]
        refine wpAnyH_ready (rs := [6, 13]) (by kernel_rfl) (by simp) ?_
        refine AllReadyH.cons (o := ⟨_, _, _, _, _, _⟩) rfl (fun K hK => ?_) ?_
        · go_simp
          refine hK.out _ _ ⟨b0, b1⟩ (fun hHeld => ?_)
          clear hK K
          refine wpAnyH_ready (rs := [13]) (by kernel_rfl) (by simp) ?_
          refine AllReadyH.cons (o := ⟨_, _, _, _, _, _⟩) rfl (fun K hK => ?_) AllReadyH.nil
          go_simp
          refine hK.out _ _ ⟨hq0, hq1⟩ (fun hHeld => ?_)
          clear hK K
          refine wpAnyH_ready (rs := [14]) (by kernel_rfl) (by simp) ?_
          refine AllReadyH.cons (o := ⟨_, _, _, _, _, _⟩) rfl (fun K hK => ?_) AllReadyH.nil
          refine step_pushA (by rfl) _ _ (by rfl) B vj l (by rfl) HQ2.out hBE.out HBW.out lo hi' (nx : Int) ⟨wa.heap.size, 0, none⟩ hnw.out (by rfl) (by have := HXp.out; omega) ?_
          intro g5 cp5 w5 ho5 hg5 hn5
          have HKP : Hid (∀ g, g < wa.heap.size → vj.ownBlock ≠ some g → w5.heap[g]? = wa.heap[g]?) := fun g hgl hne => by
            refine (hg5.block g (by have := hBE.out.size; omega) (fun e => hne e.symm)).trans (Go.Deep.blk_alloc_lt _ _ _ hgl)
          have HARC5 := Lib.hid (HARC.out w5 (.slice (some ⟨g5, 0, none⟩) (l.length + 1) cp5) ⟨lo, hi', (nx : Int)⟩ ho5 HKP.out (fun g hg => by
            have e5 : g5 = g := by simpa [Value.ownBlock] using hg
            rw [← e5]
            exact hn5))
          have HB5 : Hid (Below B w w5) := by
            have h1 : Below B w ((wa.alloc (.cells #[.int .i64 lo, .int .i64 hi', .int .i64 (nx : Int)] 71)).drew) := (HB1.out.alloc HBW.out _).drew
            exact h1.grown hg5 (Nat.le_trans hB h1.size) (fun j hj => (HQ2.out.lt j hj).1)
          have k0 := HSA.out w5 (by
            refine HKP.out bx hbxl fun e => ?_
            obtain ⟨c', fz', hc'⟩ := HQ2.out.kind bx e
            exact kinds_neY HBK.out hc' (by decide) rfl)
          have k1 : w5.cell? ⟨G, pp * 3 + 1, none⟩ = some vj := by
            refine (World.cell?_of_block (w := wa) (a := ⟨G, pp * 3 + 1, none⟩) HARC5.out.2.2.2).trans d7
          have k2 : w5.frozen? ⟨G, pp * 3 + 1, none⟩ = false := (World.frozen?_of_block (w := wa) (a := ⟨G, pp * 3 + 1, none⟩) HARC5.out.2.2.2).trans df
          have z3 := HSA.out (w5.setCell ⟨G, pp * 3 + 1, none⟩ (.slice (some ⟨g5, 0, none⟩) (l.length + 1) cp5)) ((HARC5.out.2.1 bx _ _ _ HBK.out (by decide) (by decide)))
          clear hg5 hn5 ho5
          refine hK.out _ _ k0 (fun hHeld => ?_)
          clear hK K
          simp only [Act.put, List.setIfInBounds_toArray, List.set_cons_zero, List.set_cons_succ]
          refine wpAnyH_ready (rs := [15]) (by kernel_rfl) (by simp) ?_
          refine AllReadyH.cons (o := ⟨_, _, _, _, _, _⟩) rfl (fun K hK => ?_) AllReadyH.nil
          go_simp
          refine hK.out _ _ k0 (fun hHeld => ?_)
          clear hK K
          refine wpAnyH_ready (rs := [16]) (by kernel_rfl) (by simp) ?_
          refine AllReadyH.cons (o := ⟨_, _, _, _, _, _⟩) rfl (fun K hK => ?_) AllReadyH.nil
          go_simp
          refine hK.out _ _ k0 (fun hHeld => ?_)
          clear hK K
          refine wpAnyH_ready (rs := [17]) (by kernel_rfl) (by simp) ?_
          refine AllReadyH.cons (o := ⟨_, _, _, _, _, _⟩) rfl (fun K hK => ?_) AllReadyH.nil
          go_simp
          refine hK.out _ _ z3 (fun hHeld => ?_)
          clear hK K
          refine wpAnyH_done (by kernel_rfl) ?_ _
          have HB6 : Hid (Below B w (w5.setCell ⟨G, pp * 3 + 1, none⟩ (.slice (some ⟨g5, 0, none⟩) (l.length + 1) cp5))) := HB5.out.setCell HGB.out _
          have HK6 : Hid (KeptT w (w5.setCell ⟨G, pp * 3 + 1, none⟩ (.slice (some ⟨g5, 0, none⟩) (l.length + 1) cp5))) := HK1.out.trans HARC5.out.2.1
          have HO6 : Hid (LoO (w5.setCell ⟨G, pp * 3 + 1, none⟩ (.slice (some ⟨g5, 0, none⟩) (l.length + 1) cp5)) B (.slice (some ⟨G, 0, none⟩) nl cp0) (vals.set pp (vals[pp].1, .slice (some ⟨g5, 0, none⟩) (l.length + 1) cp5, vals[pp].2.2)) (Sp.addArc n pp ⟨lo, hi', (nx : Int)⟩)) := by
            have := HARC5.out.1
            rw [← HNL.out] at this
            exact this
          have HLT2 : Hid (i + 1 < m → nx < (Sp.addArc n pp ⟨lo, hi', (nx : Int)⟩).length) := fun e => by rw [HAL.out]; exact HLT.out e
          have HNB2 : (Sp.addArc n pp ⟨lo, hi', (nx : Int)⟩).length ≤ L.length + (i + 1) := by rw [HAL.out, ← HNL.out]; exact HNB
          clear k1 k2 z3 d7 df g7 b0 b1 hq0 hq1 k0
          try (obtain rfl := HNQ.out)
          go_wp2_with fail
          go_roundg (m - (i + 1))
          case rel => exact ⟨i + 1, nx, _, _, _, by omega, rfl, rfl, rfl, by go_num, HNB2, HLT2, HO6, HEQ, HARCS.out _, HB6, HK6⟩
          case measure => omega
        refine AllReadyH.cons (o := ⟨_, _, _, _, _, _⟩) rfl (fun K hK => ?_) AllReadyH.nil
        go_simp
        refine hK.out _ _ ⟨hq0, hq1⟩ (fun hHeld => ?_)
        clear hK K
        refine wpAnyH_ready (rs := [6]) (by kernel_rfl) (by simp) ?_
        refine AllReadyH.cons (o := ⟨_, _, _, _, _, _⟩) rfl (fun K hK => ?_) AllReadyH.nil
        go_simp
        refine hK.out _ _ ⟨hq0, hq1⟩ (fun hHeld => ?_)
        clear hK K
        refine wpAnyH_ready (rs := [14]) (by kernel_rfl) (by simp) ?_
        refine AllReadyH.cons (o := ⟨_, _, _, _, _, _⟩) rfl (fun K hK => ?_) AllReadyH.nil
        refine step_pushA (by rfl) _ _ (by rfl) B vj l (by rfl) HQ2.out hBE.out HBW.out lo hi' (nx : Int) ⟨wa.heap.size, 0, none⟩ hnw.out (by rfl) (by have := HXp.out; omega) ?_
        intro g5 cp5 w5 ho5 hg5 hn5
        have HKP : Hid (∀ g, g < wa.heap.size → vj.ownBlock ≠ some g → w5.heap[g]? = wa.heap[g]?) := fun g hgl hne => by
          refine (hg5.block g (by have := hBE.out.size; omega) (fun e => hne e.symm)).trans (Go.Deep.blk_alloc_lt _ _ _ hgl)
        have HARC5 := Lib.hid (HARC.out w5 (.slice (some ⟨g5, 0, none⟩) (l.length + 1) cp5) ⟨lo, hi', (nx : Int)⟩ ho5 HKP.out (fun g hg => by
          have e5 : g5 = g := by simpa [Value.ownBlock] using hg
          rw [← e5]
          exact hn5))
        have HB5 : Hid (Below B w w5) := by
          have h1 : Below B w ((wa.alloc (.cells #[.int .i64 lo, .int .i64 hi', .int .i64 (nx : Int)] 71)).drew) := (HB1.out.alloc HBW.out _).drew
          exact h1.grown hg5 (Nat.le_trans hB h1.size) (fun j hj => (HQ2.out.lt j hj).1)
        have k0 := HSA.out w5 (by
          refine HKP.out bx hbxl fun e => ?_
          obtain ⟨c', fz', hc'⟩ := HQ2.out.kind bx e
          exact kinds_neY HBK.out hc' (by decide) rfl)
        have k1 : w5.cell? ⟨G, pp * 3 + 1, none⟩ = some vj := by
          refine (World.cell?_of_block (w := wa) (a := ⟨G, pp * 3 + 1, none⟩) HARC5.out.2.2.2).trans d7
        have k2 : w5.frozen? ⟨G, pp * 3 + 1, none⟩ = false := (World.frozen?_of_block (w := wa) (a := ⟨G, pp * 3 + 1, none⟩) HARC5.out.2.2.2).trans df
        have z3 := HSA.out (w5.setCell ⟨G, pp * 3 + 1, none⟩ (.slice (some ⟨g5, 0, none⟩) (l.length + 1) cp5)) ((HARC5.out.2.1 bx _ _ _ HBK.out (by decide) (by decide)))
        clear hg5 hn5 ho5
        refine hK.out _ _ k0 (fun hHeld => ?_)
        clear hK K
        simp only [Act.put, List.setIfInBounds_toArray, List.set_cons_zero, List.set_cons_succ]
        refine wpAnyH_ready (rs := [15]) (by kernel_rfl) (by simp) ?_
        refine AllReadyH.cons (o := ⟨_, _, _, _, _, _⟩) rfl (fun K hK => ?_) AllReadyH.nil
        go_simp
        refine hK.out _ _ k0 (fun hHeld => ?_)
        clear hK K
        refine wpAnyH_ready (rs := [16]) (by kernel_rfl) (by simp) ?_
        refine AllReadyH.cons (o := ⟨_, _, _, _, _, _⟩) rfl (fun K hK => ?_) AllReadyH.nil
        go_simp
        refine hK.out _ _ k0 (fun hHeld => ?_)
        clear hK K
        refine wpAnyH_ready (rs := [17]) (by kernel_rfl) (by simp) ?_
        refine AllReadyH.cons (o := ⟨_, _, _, _, _, _⟩) rfl (fun K hK => ?_) AllReadyH.nil
        go_simp
        refine hK.out _ _ z3 (fun hHeld => ?_)
        clear hK K
        refine wpAnyH_done (by kernel_rfl) ?_ _
        have HB6 : Hid (Below B w (w5.setCell ⟨G, pp * 3 + 1, none⟩ (.slice (some ⟨g5, 0, none⟩) (l.length + 1) cp5))) := HB5.out.setCell HGB.out _
        have HK6 : Hid (KeptT w (w5.setCell ⟨G, pp * 3 + 1, none⟩ (.slice (some ⟨g5, 0, none⟩) (l.length + 1) cp5))) := HK1.out.trans HARC5.out.2.1
        have HO6 : Hid (LoO (w5.setCell ⟨G, pp * 3 + 1, none⟩ (.slice (some ⟨g5, 0, none⟩) (l.length + 1) cp5)) B (.slice (some ⟨G, 0, none⟩) nl cp0) (vals.set pp (vals[pp].1, .slice (some ⟨g5, 0, none⟩) (l.length + 1) cp5, vals[pp].2.2)) (Sp.addArc n pp ⟨lo, hi', (nx : Int)⟩)) := by
          have := HARC5.out.1
          rw [← HNL.out] at this
          exact this
        have HLT2 : Hid (i + 1 < m → nx < (Sp.addArc n pp ⟨lo, hi', (nx : Int)⟩).length) := fun e => by rw [HAL.out]; exact HLT.out e
        have HNB2 : (Sp.addArc n pp ⟨lo, hi', (nx : Int)⟩).length ≤ L.length + (i + 1) := by rw [HAL.out, ← HNL.out]; exact HNB
        clear k1 k2 z3 d7 df g7 b0 b1 hq0 hq1 k0
        try (obtain rfl := HNQ.out)
        go_wp2_with fail
        go_roundg (m - (i + 1))
        case rel => exact ⟨i + 1, nx, _, _, _, by omega, rfl, rfl, rfl, by go_num, HNB2, HLT2, HO6, HEQ, HARCS.out _, HB6, HK6⟩
        case measure => omega
    · obtain rfl : i = m := by omega
      have e1 : row.drop i = [] := List.drop_of_length_le (by rw [HM.out]; exact Nat.le_refl _)
      rw [e1] at hE
      clear e1
      go_wp2_with fail
      go_ret
      refine ⟨_, vals, rfl, ?_, hbel.out, hkt.out⟩
      rw [← hE.out]
      exact hO.out
end Go.Proofs.YtmhchajdeneabaaGreatDoor

/-
  What Lead answers: the characters of a range lead from one state to another.
-/
namespace Go.Proofs.YtmhchajdeneabaaGreatDoor
open Go.RowKit

namespace Sp
theorem leadBy_arcs {n : List Au.Lo} {p q X : Nat} {row : List (Int × Int)} (hp : p < n.length) (h : ∀ s ∈ n, s.arcs.length ≤ X) : ∀ s ∈ leadBy q n p row, s.arcs.length ≤ X + 1 := by
  cases row with
  | nil => intro s hs; have := h s hs; omega
  | cons r rs =>
    rw [leadBy_form q rs r n p hp]
    intro s hs
    rcases List.mem_append.1 hs with hs | hs
    · exact addArc_arcs h s hs
    · obtain ⟨j, hj⟩ := List.mem_iff_getElem?.1 hs
      have hl : j < rs.length := by have := (List.getElem?_eq_some_iff.1 hj).1; rwa [chainL_length] at this
      rw [chainL_at q n.length rs j hl] at hj
      cases hj
      simp
theorem lead_bounds {L : List Au.Lo} {p q X : Nat} (hp : p < L.length) (hX : ∀ s ∈ L, s.arcs.length ≤ X) : ∀ (m : Nat) (R : List (List (Int × Int))), R.length = m → (∀ row ∈ R, row.length ≤ 4) → L.length ≤ (lead L p q R).length ∧ (lead L p q R).length ≤ L.length + 4 * m ∧ ∀ s ∈ lead L p q R, s.arcs.length ≤ X + m
  | 0, R, hR, _ => by
    obtain rfl := List.length_eq_zero_iff.1 hR
    exact ⟨Nat.le_refl _, Nat.le_refl _, hX⟩
  | m + 1, R, hR, hr => by
    obtain ⟨T, row, rfl⟩ : ∃ T row, R = T ++ [row] := ⟨R.dropLast, R.getLast (by intro e; rw [e] at hR; simp at hR), (List.dropLast_concat_getLast _).symm⟩
    obtain ⟨i1, i2, i3⟩ := lead_bounds (q := q) hp hX m T (by simpa using hR) fun r h => hr r (List.mem_append_left _ h)
    have hrow := hr row (by simp)
    rw [lead_snoc]
    have hp2 : p < (lead L p q T).length := by omega
    have hl := leadBy_length q (lead L p q T) p row hp2
    exact ⟨by omega, by omega, leadBy_arcs hp2 i3⟩
end Sp
theorem rowK {w w' : World} (h : KeptT w w') {g j : Nat} {v : Value} (hk : ∃ (c : Array Value) (fz : Nat × Nat), w.heap[g]? = some (Obj.cells c 78 fz)) (hc : w.cell? ⟨g, j, none⟩ = some v) : w'.cell? ⟨g, j, none⟩ = some v := by
  obtain ⟨c, fz, hg⟩ := hk
  exact (World.cell?_of_block (w := w) (a := ⟨g, j, none⟩) (h g c _ fz hg (by decide) (by decide))).trans hc

set_option maxRecDepth 100000 in
set_option maxHeartbeats 4000000 in
theorem lead_any (F : Nat → Prop) (w : World) (v : Value) (L : List Au.Lo) (h : LoS F w v L) (hL : L.length ≤ 1000) (hs : ∀ s ∈ L, s.arcs.length ≤ 1099511627 ∧ s.free.length * 8 ≤ 140737488355328) (p q : Nat) (lo hi : Int) (hp : p < L.length) (hq : q < L.length) :
    Calls Tryz.prog 38 #[v, .int .i64 (p : Int), .int .i64 (q : Int), .int .i64 lo, .int .i64 hi] w fun e w' => ∃ v' vals, e = .returned v' ∧ LoO w' w.heap.size v' vals (Sp.lead L p q (Sp.rows lo hi)) ∧ Below w.heap.size w w' := by
  have HC := Lib.hid (copyOf_any F w v L h hL fun s hs' => ⟨by have := (hs s hs').1; omega, (hs s hs').2⟩)
  have hb1 : inB (p : Int) L.length = true := decide_eq_true ⟨by omega, by omega⟩
  have hb2 : inB (q : Int) L.length = true := decide_eq_true ⟨by omega, by omega⟩
  obtain ⟨a, cap, rfl, _, hcp, _⟩ := h
  have H1 := Lib.hid (fun w => isPlace_any5 (p : Int) L.length w)
  have H2 := Lib.hid (fun w => isPlace_any5 (q : Int) L.length w)
  rw [hb1] at H1
  rw [hb2] at H2
  have HRW := Lib.hid (fun w => rows_any lo hi w)
  have HFEW := Sp.rows_few lo hi
  have HOK := Lib.hid (fun row (hr : row ∈ Sp.rows lo hi) => Sp.rows_shape hr)
  have HBD := Lib.hid (fun (m : Nat) (T : List (List (Int × Int))) (e : T.length = m) (ht : ∀ row ∈ T, row.length ≤ 4) => Sp.lead_bounds (q := q) hp (fun s hs' => (hs s hs').1) m T e ht)
  generalize Sp.rows lo hi = R at *
  obtain ⟨n, hn⟩ : ∃ n, n = L.length := ⟨_, rfl⟩
  have HN := Lib.hid hn
  rw [← hn] at hL HC H1 H2 hp hq ⊢
  clear hn hb1 hb2 hs
  go_enter Tryz.func38, Tryz.ntmps38
  go_wp2_with fail
  refine HC.out.mono ?_
  rintro e w1 ⟨v', vals, rfl, hO, hb⟩
  have HO1 := Lib.hid hO
  have HB1 := Lib.hid hb
  clear hO hb HC
  go_wp2_with fail
  refine (H1.out w1).mono ?_
  rintro e w2 ⟨rfl, rfl⟩
  go_wp2_with fail
  refine (H2.out w1).mono ?_
  rintro e w2 ⟨rfl, rfl⟩
  go_wp2_with fail
  refine (HRW.out w1).mono ?_
  rintro e w2 ⟨vr, gs, rfl, hR, hb⟩
  have HO2 := Lib.hid (HO1.out.keep fun k hk => hb.block k hk)
  have HB2 : Hid (Below w.heap.size w w2) := HB1.out.trans (hb.mono HB1.out.size)
  have HR := Lib.hid hR
  obtain ⟨nr, hnr⟩ : ∃ nr, nr = R.length := ⟨_, rfl⟩
  obtain ⟨ar, cr, rfl, _, _, hform⟩ := HR.out.form
  have HF := Lib.hid hform
  have HNR := Lib.hid hnr
  rw [← hnr] at HFEW ⊢
  clear hR hb hform hnr HO1 HB1 HRW
  go_wp2_with fail
  go_loopg [11, 33] nr (fun g' s11 s33 wx => ∃ (k : Nat) (vv : Value) (vals : List LoV), k ≤ nr ∧ g' = nr - k ∧ vv = s11 ∧ s33 = .int .i64 k ∧ Hid (LoO wx w.heap.size vv vals (Sp.lead L p q (R.take k))) ∧ Hid (Below w.heap.size w wx) ∧ Hid (KeptT w2 wx))
  case atStart => exact ⟨0, _, vals, Nat.zero_le _, rfl, rfl, rfl, HO2, HB2, KeptT.refl _⟩
  case round =>
    obtain ⟨k, vv, vals, hk, rfl, rfl, rfl, hO, hbel, hkt⟩ := hrel
    by_cases hkn : k < nr
    · have i1 : (k : Int) < (nr : Int) := by omega
      have hkR : k < R.length := by rw [← HNR.out]; exact hkn
      have hkg : k < gs.length := by rw [HR.out.len]; exact hkR
      obtain ⟨gr, rfl, _, hgr, hcell⟩ := HF.out (by omega)
      have c1 := rowK hkt.out (HR.out.kind gr rfl).2.2 (hcell k hkg hkR)
      have HG := Lib.hid (hkt.out.row (HR.out.row k hkg hkR).2)
      have HSH := Lib.hid (HOK.out R[k] (List.getElem_mem hkR))
      obtain ⟨b1, b2, b3⟩ := HBD.out k (R.take k) (by rw [List.length_take]; omega) fun row hr => (HOK.out row (List.mem_of_mem_take hr)).len
      have HST : Hid (Sp.lead L p q (R.take (k + 1)) = Sp.leadBy q (Sp.lead L p q (R.take k)) p R[k]) := by
        show _ = _
        rw [List.take_succ_eq_append_getElem hkR, Sp.lead_snoc]
      obtain ⟨m, hm⟩ : ∃ m, R[k].length = m := ⟨_, rfl⟩
      have HCL := Lib.hid (leadBy_any wr w.heap.size vv vals _ hO.out p q gs[k] m R[k] (by rw [← HN.out] at b1; omega) HG.out hm (by rw [← hm]; exact HSH.out.len) (by rw [← HN.out] at b2; omega) _ b3 (by omega) hbel.out.size HSH.out.rng)
      rw [hm] at c1
      clear hcell hm b1 b2 b3 hO
      go_wp2_with fail
      refine HCL.out.mono ?_
      rintro e w3 ⟨v3, vals3, rfl, hO3, hb3, hk3⟩
      have HO3 : Hid (LoO w3 w.heap.size v3 vals3 (Sp.lead L p q (R.take (k + 1)))) := by
        show LoO _ _ _ _ _
        rw [HST.out]
        exact hO3
      have HB3 : Hid (Below w.heap.size w w3) := hbel.out.trans hb3
      have HK3 : Hid (KeptT w2 w3) := hkt.out.trans hk3
      clear hO3 hb3 hk3 c1
      go_wp2_with fail
      go_roundg (nr - (k + 1))
      case rel => exact ⟨k + 1, _, vals3, by omega, rfl, rfl, by go_num, HO3, HB3, HK3⟩
      case measure => omega
    · obtain rfl : k = nr := by omega
      have e : R.take k = R := List.take_of_length_le (by rw [← HNR.out]; exact Nat.le_refl _)
      rw [e] at hO
      clear e
      go_wp2_with fail
      go_ret
      exact ⟨_, vals, rfl, hO.out, hbel.out⟩
end Go.Proofs.YtmhchajdeneabaaGreatDoor

/-
  The automaton of a pattern's characters: states in memory of the call's own, characters led between them one behind the other, an end, made tight.
-/
namespace Go.Proofs.YtmhchajdeneabaaGreatDoor
open Go.RowKit

theorem row_mono {w : World} {B C : Nat} {t : TypeId} {z : Nat} {v : Value} {n : Nat} {xs : List Value} (h : w.ownsRow B t z v n xs) (hC : C ≤ B) : w.ownsRow C t z v n xs := by
  refine ⟨h.1, ?_⟩
  rcases h.2 with h1 | ⟨g, cap, cur, h1, hg, hr⟩
  · exact .inl h1
  · exact .inr ⟨g, cap, cur, h1, Nat.le_trans hC hg, hr⟩
theorem LoO.base {w : World} {B C : Nat} {v : Value} {vals : List LoV} {L : List Au.Lo} (h : LoO w B v vals L) (hC : C ≤ B) : LoO w C v vals L :=
  ⟨row_mono h.own hC, ⟨h.each.len, fun j a b => ⟨(h.each.each j a b).1, row_mono (h.each.each j a b).2.1 hC, row_mono (h.each.each j a b).2.2 hC⟩, h.each.apart⟩⟩
theorem losCell_same (n j : Nat) : losCell (List.replicate n (false, .slice none 0 0, .slice none 0 0)) j = losCell [] j := by
  unfold losCell
  rw [List.getD_eq_getElem?_getD, List.getD_eq_getElem?_getD, List.getElem?_replicate]
  split <;> rfl
/-- States without arcs, in a new block. -/
theorem blank_new (w : World) (n : Nat) (hn : n ≤ 1000) : LoO (w.alloc (.cells (madeCells #[.bool false, .slice none 0 0, .slice none 0 0] (n * 3)) 65)) w.heap.size (.slice (some ⟨w.heap.size, 0, none⟩) n n) (List.replicate n (false, .slice none 0 0, .slice none 0 0)) (Wl.blank n) := by
  have hr := (madeLo w n).congr fun j _ => (losCell_same n j).symm
  have hbl : (Wl.blank n).length = n := by simp [Wl.blank]
  refine ⟨?_, ?_⟩
  · have := own_of_rowIs hr (by simp) (Nat.le_refl _) hn
    show World.ownsRow _ _ _ _ _ (Wl.blank n).length _
    rw [hbl]
    exact this
  · refine ⟨by rw [hbl]; simp, fun j a b => ?_, fun i j hi hj _ g hg => ?_⟩
    · have e1 : (List.replicate n ((false, .slice none 0 0, .slice none 0 0) : LoV))[j] = (false, .slice none 0 0, .slice none 0 0) := List.getElem_replicate _
      have e2 : (Wl.blank n)[j] = ⟨false, [], []⟩ := List.getElem_replicate _
      rw [e1, e2]
      exact ⟨rfl, World.ownsRow_nil _ _ _ _, World.ownsRow_nil _ _ _ _⟩
    · rw [List.getElem_replicate] at hg
      cases hg
/-- An end among states of the call's own. -/
theorem LoO.fin {w : World} {B G cap p : Nat} {vals : List LoV} {L : List Au.Lo} (h : LoO w B (.slice (some ⟨G, 0, none⟩) L.length cap) vals L) (hpv : p < vals.length) :
    LoO (w.setCell ⟨G, p * 3, none⟩ (.bool true)) B (.slice (some ⟨G, 0, none⟩) L.length cap) (vals.set p (true, vals[p].2.1, vals[p].2.2)) (Wl.setF L p) := by
  have hl := h.each.len
  obtain ⟨hGB, hGl, cG, fzG, hG⟩ := h.kind G rfl
  have far : ∀ g, g ≠ G → (w.setCell ⟨G, p * 3, none⟩ (.bool true)).heap[g]? = w.heap[g]? := fun g hne => Go.Deep.blk_setCell_other _ _ _ _ hne
  refine ⟨?_, ?_⟩
  · have hs := (h.own.stored (p * 3) (.bool true)).1
    have e : (losV vals).set (p * 3) (.bool true) = losV (vals.set p (true, vals[p].2.1, vals[p].2.2)) := by
      clear hs far h hl
      induction vals generalizing p with
      | nil => simp at hpv
      | cons x t ih =>
        cases p with
        | zero => rfl
        | succ p =>
          have hp' : p < t.length := by simpa using hpv
          have := ih hp'
          simp only [List.set_cons_succ, List.getElem_cons_succ]
          show (_ :: _ :: _ :: losV t).set ((p + 1) * 3) (.bool true) = _ :: _ :: _ :: losV _
          rw [show (p + 1) * 3 = p * 3 + 1 + 1 + 1 by omega, List.set_cons_succ, List.set_cons_succ, List.set_cons_succ, this]
    rw [e] at hs
    rw [Wl.setF_length]
    exact hs
  · have hset : ∀ j (hj : j < (vals.set p (true, vals[p].2.1, vals[p].2.2)).length), (vals.set p (true, vals[p].2.1, vals[p].2.2))[j] = if p = j then (true, vals[p].2.1, vals[p].2.2) else vals[j]'(by simpa using hj) := fun j hj => by rw [List.getElem_set]
    have hadd : ∀ j (hj : j < (Wl.setF L p).length), (Wl.setF L p)[j] = if p = j then ⟨true, (L[j]'(by simpa [Wl.setF_length] using hj)).arcs, (L[j]'(by simpa [Wl.setF_length] using hj)).free⟩ else L[j]'(by simpa [Wl.setF_length] using hj) := fun j hj => by
      have := Wl.setF_at L p j
      rw [List.getElem?_eq_getElem hj, List.getElem?_eq_getElem (by simpa [Wl.setF_length] using hj)] at this
      simpa using this
    have hboth : ∀ j (hj : j < (vals.set p (true, vals[p].2.1, vals[p].2.2)).length), ((vals.set p (true, vals[p].2.1, vals[p].2.2))[j]).2 = (vals[j]'(by simpa using hj)).2 := fun j hj => by
      rw [hset j hj]
      split
      · rename_i e; subst e; rfl
      · rfl
    refine ⟨by rw [List.length_set, Wl.setF_length]; exact hl, fun j a b => ?_, fun i j hi hj hne g hgi hgj => ?_⟩
    · have ha : j < vals.length := by simpa using a
      obtain ⟨r1, r2, r3⟩ := h.each.each j ha (by omega)
      have q2 : OwnA (w.setCell ⟨G, p * 3, none⟩ (.bool true)) B vals[j].2.1 (L[j]'(by omega)).arcs := r2.keep fun k hk => by
        obtain ⟨c, fz, hc⟩ := r2.kind k hk
        exact far k (kinds_neY hc hG (by decide))
      have q3 : OwnZ (w.setCell ⟨G, p * 3, none⟩ (.bool true)) B vals[j].2.2 (L[j]'(by omega)).free := ownsRow_keep r3 fun k hk => by
        obtain ⟨_, hkl, c, fz, hc⟩ := r3.kind k hk
        exact far k (kinds_neY hc hG (by decide))
      rw [hset j a, hadd j b]
      by_cases e : p = j
      · subst e
        rw [if_pos rfl, if_pos rfl]
        exact ⟨rfl, q2, q3⟩
      · rw [if_neg e, if_neg e]
        exact ⟨r1, q2, q3⟩
    · have hi' : i < vals.length := by simpa using hi
      have hj' : j < vals.length := by simpa using hj
      rw [hboth i hi] at hgi
      rw [hboth j hj] at hgj
      exact h.each.apart i j hi' hj' hne g hgi hgj
namespace Wl
theorem step_star (s : Nat × Bool × List Au.Lo) : (stepA s 42).2.2 = if s.2.1 = true then s.2.2 else Sp.lead s.2.2 s.1 s.1 (Sp.rows 0 1114111) := by
  rw [stepA_star]
theorem step_other (s : Nat × Bool × List Au.Lo) {c : Int} (h : c ≠ 42) : (stepA s c).2.2 = Sp.lead s.2.2 s.1 (s.1 + 1) (Sp.rows (rng c).1 (rng c).2) := by
  unfold stepA
  rw [if_neg h]
theorem last_at {xs : List Int} {k : Nat} (h : k < xs.length) : (xs.take (k + 1)).getLast? = some xs[k] := by
  rw [List.take_succ_eq_append_getElem h, List.getLast?_append]
  rfl
end Wl
end Go.Proofs.YtmhchajdeneabaaGreatDoor

/-
  The automaton of a pattern's characters, the program's call.
-/
namespace Go.Proofs.YtmhchajdeneabaaGreatDoor
open Go.RowKit

set_option maxRecDepth 100000 in
set_option maxHeartbeats 4000000 in
theorem auto_any (w : World) (v : Value) (xs : List Int) (hv : IntS w v xs) (hx : xs.length ≤ 17) :
    Calls Tryz.prog 22 #[v] w fun e w' => ∃ v', e = .returned (.tuple #[v', .int .i64 (Au.tightE (Wl.auto xs) 20000)]) ∧ StO w.heap.size w' v' (Au.tightL (Wl.auto xs) 20000) ∧ Below w.heap.size w w' := by
  have HNS := Lib.hid (notStars_any v xs (by omega) w hv)
  have hle := Wl.nots_le xs
  have HAT := Lib.hid (fun k => Wl.runA_at (Wl.nots xs + 1) (xs.take k))
  have HLA := Lib.hid (fun k => Wl.runA_last (Wl.nots xs + 1) (xs.take k))
  have HST := Lib.hid (fun k h => Wl.runA_step (Wl.nots xs + 1) xs k h)
  have HMO : Hid (∀ k, Wl.nots (xs.take k) ≤ Wl.nots xs) := fun k => by
    have := Wl.nots_append (xs.take k) (xs.drop k)
    rw [List.take_append_drop] at this
    omega
  have HBD : Hid (∀ k, Wl.nots xs + 1 ≤ (Wl.runA (Wl.nots xs + 1) (xs.take k)).2.2.length ∧ (Wl.runA (Wl.nots xs + 1) (xs.take k)).2.2.length ≤ 500 ∧ ∀ x ∈ (Wl.runA (Wl.nots xs + 1) (xs.take k)).2.2, x.arcs.length ≤ 170 ∧ x.free = []) := fun k => by
    obtain ⟨h1, h2, h3⟩ := Wl.run_bound (Wl.nots xs + 1) (xs.take k) (by have := HMO.out k; omega)
    have : (xs.take k).length ≤ 17 := by rw [List.length_take]; omega
    exact ⟨h1, by omega, fun x hx => ⟨by have := (h3 x hx).1; omega, (h3 x hx).2⟩⟩
  have HAU : Hid (Wl.auto xs = Wl.setF (Wl.runA (Wl.nots xs + 1) (xs.take xs.length)).2.2 (Wl.nots xs)) := by rw [List.take_length]; rfl
  have HAB := Lib.hid (Wl.auto_bound xs hx)
  have HAR := Lib.hid (Wl.auto_rows xs hx)
  have HTT : Hid (∀ W u, LoS (fun _ => True) W u (Wl.auto xs) → Calls Tryz.prog 39 #[u, .int .i64 20000] W fun e w' => ∃ v, e = .returned (.tuple #[v, .int .i64 (Au.tightE (Wl.auto xs) 20000)]) ∧ StO W.heap.size w' v (Au.tightL (Wl.auto xs) 20000) ∧ Below W.heap.size W w') := fun W u hu =>
    tightP_any (fun _ => True) W u (Wl.auto xs) 20000 hu (by have := HAB.out.2.1; omega) HAR.out (by decide)
  have HNX : Hid (∀ k, xs.length ≤ k → Wl.nots (xs.take k) = Wl.nots xs) := fun k h => by rw [List.take_of_length_le h]
  have HTS := Lib.hid (fun k (h : k < xs.length) => Wl.nots_step h)
  obtain ⟨t, ht⟩ : ∃ t, Wl.nots xs = t := ⟨_, rfl⟩
  rw [ht] at HNS HAT HLA HST HMO HBD HAU HNX hle
  obtain ⟨a, cap, rfl, _, _, hv⟩ := hv
  have HV := Lib.hid hv
  obtain ⟨n, hn⟩ : ∃ n, n = xs.length := ⟨_, rfl⟩
  have HN := Lib.hid hn
  rw [← hn] at HNS hx hle ⊢
  have hmk0 := fun w => makeLo (t + 1) (by omega) w
  have hmk : ∀ w, (Instr.makeSlice 59 (.int .i64 ((t : Int) + 1)) (.int .i64 ((t : Int) + 1))).run Tryz.prog w = .ok (.slice (some ⟨w.heap.size, 0, none⟩) (t + 1) (t + 1)) (w.alloc (.cells (madeCells #[.bool false, .slice none 0 0, .slice none 0 0] ((t + 1) * 3)) 65)) := hmk0
  have HO0 := Lib.hid (blank_new w (t + 1) (by omega))
  have HB0 : Hid (Below w.heap.size w (w.alloc (.cells (madeCells #[.bool false, .slice none 0 0, .slice none 0 0] ((t + 1) * 3)) 65))) := (Below.refl _ _).alloc (Nat.le_refl _) _
  clear hmk0 hv hn ht
  go_enter Tryz.func22, Tryz.ntmps22
  go_wp2_with fail
  refine HNS.out.mono ?_
  rintro e w1 ⟨rfl, rfl⟩
  go_wp2_with fail
  generalize w.alloc (.cells (madeCells #[.bool false, .slice none 0 0, .slice none 0 0] ((t + 1) * 3)) 65) = w1 at *
  generalize List.replicate (t + 1) ((false, .slice none 0 0, .slice none 0 0) : LoV) = vals0 at *
  have HZ : Hid (∀ W, Below w.heap.size w W → w.heap.size ≤ W.heap.size) := fun W h => h.size
  go_loopg [4, 5, 16] n (fun g s4 s5 s16 wx => ∃ (k : Nat) (vv : Value) (vals : List LoV), k ≤ n ∧ g = n - k ∧ vv = s4 ∧ s5 = .int .i64 (Wl.nots (xs.take k) : Int) ∧ s16 = .int .i64 k ∧ Hid (LoO wx w.heap.size vv vals (Wl.runA (t + 1) (xs.take k)).2.2) ∧ Hid (Below w.heap.size w wx))
  case atStart => exact ⟨0, _, vals0, Nat.zero_le _, rfl, rfl, rfl, rfl, HO0, HB0⟩
  case round =>
    obtain ⟨k, vv, vals, hk, rfl, rfl, rfl, rfl, hO, hbel⟩ := hrel
    by_cases hkn : k < n
    · have i1 : (k : Int) < (n : Int) := by omega
      have kx : k < xs.length := by rw [← HN.out]; exact hkn
      obtain ⟨g, o, rfl, hg, hcu⟩ := HV.out (by omega)
      have c1 : wr.cell? ⟨g, o + k, none⟩ = some (.int .i64 xs[k]) := (hbel.out.cell (p := ⟨g, o + k, none⟩) hg).trans (hcu k kx)
      have hat := HAT.out k
      have hmo := HMO.out k
      obtain ⟨b1, b2, b3⟩ := HBD.out k
      have HLD : Hid (∀ (p q : Nat) (lo hi : Int), p < t + 1 → q < t + 1 → Calls Tryz.prog 38 #[vv, .int .i64 (p : Int), .int .i64 (q : Int), .int .i64 lo, .int .i64 hi] wr fun e w' => ∃ v' vals, e = .returned v' ∧ LoO w' wr.heap.size v' vals (Sp.lead (Wl.runA (t + 1) (xs.take k)).2.2 p q (Sp.rows lo hi)) ∧ Below wr.heap.size wr w') := fun p q lo hi hp hq =>
        lead_any (fun _ => True) wr vv _ (hO.out.los _ fun _ _ => trivial) (by omega) (fun s hs => ⟨by have := (b3 s hs).1; omega, by rw [(b3 s hs).2]; simp⟩) p q lo hi (by omega) (by omega)
      have hst := HST.out k kx
      have hts := HTS.out k kx
      have HLK : Hid (0 < k → wr.cell? ⟨g, o + (k - 1), none⟩ = some (.int .i64 (xs[k - 1]'(by omega)))) := fun h => (hbel.out.cell (p := ⟨g, o + (k - 1), none⟩) hg).trans (hcu (k - 1) (by omega))
      have HLB : Hid ((Wl.runA (t + 1) (xs.take k)).2.1 = if h : 0 < k then decide ((xs[k - 1]'(by omega)) = 42) else false) := by
        show _ = _
        rw [HLA.out k]
        by_cases h : 0 < k
        · rw [dif_pos h]
          have := Wl.last_at (xs := xs) (k := k - 1) (by omega)
          rw [show k - 1 + 1 = k by omega] at this
          rw [this]
          simp
        · obtain rfl : k = 0 := by omega
          rfl
      by_cases hc : xs[k] = 42
      · have hs2 : Hid ((Wl.runA (t + 1) (xs.take (k + 1))).2.2 = if (Wl.runA (t + 1) (xs.take k)).2.1 = true then (Wl.runA (t + 1) (xs.take k)).2.2 else Sp.lead (Wl.runA (t + 1) (xs.take k)).2.2 (Wl.nots (xs.take k)) (Wl.nots (xs.take k)) (Sp.rows 0 1114111)) := by
          show _ = _
          rw [hst, hc, Wl.step_star, hat]
        have hn2 : Hid (Wl.nots (xs.take (k + 1)) = Wl.nots (xs.take k)) := by show _ = _; rw [hts, if_pos hc]; rfl
        have HL := Lib.hid (HLD.out (Wl.nots (xs.take k)) (Wl.nots (xs.take k)) 0 1114111 (by omega) (by omega))
        have he' : (xs[k] != 42) = false := by simpa using hc
        rw [hc] at c1
        clear hst hts HLD hcu b1 b2 b3 hat he' hc
        generalize Wl.nots (xs.take k) = at_ at *
        by_cases h0 : 0 < k
        · have hlk := HLK.out h0
          have hlb := HLB.out
          rw [dif_pos h0] at hlb
          have j0 : ((k : Int) == 0) = false := by simp; omega
          have j1 : (0 : Int) < (k : Int) := by omega
          by_cases hp : (xs[k - 1]'(by omega)) = 42
          · rw [hp] at hlk
            rw [decide_eq_true hp] at hlb
            have hO2 : Hid (LoO wr w.heap.size vv vals (Wl.runA (t + 1) (xs.take (k + 1))).2.2) := by
              show LoO _ _ _ _ _
              rw [hs2.out, hlb, if_pos rfl]
              exact hO.out
            clear hp hlb HLB HLK hs2 hO HL
            go_wp2_with fail
            go_roundg (n - (k + 1))
            case rel => exact ⟨k + 1, _, vals, by omega, rfl, rfl, by rw [hn2.out], by go_num, hO2, hbel⟩
            case measure => omega
          · rw [decide_eq_false hp] at hlb
            have hs3 : Hid ((Wl.runA (t + 1) (xs.take (k + 1))).2.2 = Sp.lead (Wl.runA (t + 1) (xs.take k)).2.2 at_ at_ (Sp.rows 0 1114111)) := by
              show _ = _
              rw [hs2.out, hlb]
              rfl
            have he' : ((xs[k - 1]'(by omega)) != 42) = true := by simpa using hp
            generalize (xs[k - 1]'(by omega)) = y at *
            clear hlb HLB HLK hs2 hp
            go_wp2_with fail
            refine HL.out.mono ?_
            rintro e w3 ⟨v3, vals3, rfl, hO3, hb3⟩
            have HO3 : Hid (LoO w3 w.heap.size v3 vals3 (Wl.runA (t + 1) (xs.take (k + 1))).2.2) := by
              show LoO _ _ _ _ _
              rw [hs3.out]
              exact hO3.base hbel.out.size
            have HB3 : Hid (Below w.heap.size w w3) := hbel.out.trans (hb3.mono hbel.out.size)
            clear hO3 hb3
            go_wp2_with fail
            go_roundg (n - (k + 1))
            case rel => exact ⟨k + 1, _, vals3, by omega, rfl, rfl, by rw [hn2.out], by go_num, HO3, HB3⟩
            case measure => omega
        · have hlb := HLB.out
          rw [dif_neg h0] at hlb
          have hs3 : Hid ((Wl.runA (t + 1) (xs.take (k + 1))).2.2 = Sp.lead (Wl.runA (t + 1) (xs.take k)).2.2 at_ at_ (Sp.rows 0 1114111)) := by
            show _ = _
            rw [hs2.out, hlb]
            rfl
          have j0 : ((k : Int) == 0) = true := by simp; omega
          clear hlb HLB HLK hs2
          go_wp2_with fail
          refine HL.out.mono ?_
          rintro e w3 ⟨v3, vals3, rfl, hO3, hb3⟩
          have HO3 : Hid (LoO w3 w.heap.size v3 vals3 (Wl.runA (t + 1) (xs.take (k + 1))).2.2) := by
            show LoO _ _ _ _ _
            rw [hs3.out]
            exact hO3.base hbel.out.size
          have HB3 : Hid (Below w.heap.size w w3) := hbel.out.trans (hb3.mono hbel.out.size)
          clear hO3 hb3
          go_wp2_with fail
          go_roundg (n - (k + 1))
          case rel => exact ⟨k + 1, _, vals3, by omega, rfl, rfl, by rw [hn2.out], by go_num, HO3, HB3⟩
          case measure => omega
      · have hs3 : Hid ((Wl.runA (t + 1) (xs.take (k + 1))).2.2 = Sp.lead (Wl.runA (t + 1) (xs.take k)).2.2 (Wl.nots (xs.take k)) (Wl.nots (xs.take k) + 1) (Sp.rows (Wl.rng xs[k]).1 (Wl.rng xs[k]).2)) := by
          show _ = _
          rw [hst, Wl.step_other _ hc, hat]
        have hn2 : Hid (Wl.nots (xs.take (k + 1)) = Wl.nots (xs.take k) + 1) := by show _ = _; rw [hts, if_neg hc]
        have hmo2 := HMO.out (k + 1)
        rw [hn2.out] at hmo2
        have HL := Lib.hid (HLD.out (Wl.nots (xs.take k)) (Wl.nots (xs.take k) + 1) (Wl.rng xs[k]).1 (Wl.rng xs[k]).2 (by omega) (by omega))
        have HCO := Lib.hid (chars_of xs[k] wr)
        have he' : (xs[k] != 42) = true := by simpa using hc
        clear hst hts HLD hcu b1 b2 b3 hat hc HLK HLB hmo2
        generalize Wl.rng xs[k] = lh at *
        obtain ⟨lo, hi⟩ := lh
        generalize xs[k] = x at *
        generalize Wl.nots (xs.take k) = at_ at *
        have HL2 : Hid (Calls Tryz.prog 38 #[vv, .int .i64 (at_ : Int), .int .i64 ((at_ : Int) + 1), .int .i64 lo, .int .i64 hi] wr fun e w' => ∃ v' vals, e = .returned v' ∧ LoO w' wr.heap.size v' vals (Sp.lead (Wl.runA (t + 1) (xs.take k)).2.2 at_ (at_ + 1) (Sp.rows lo hi)) ∧ Below wr.heap.size wr w') := HL.out
        clear HL
        go_wp2_with fail
        refine HCO.out.mono ?_
        rintro e w3 ⟨rfl, rfl⟩
        go_wp2_with fail
        refine HL2.out.mono ?_
        rintro e w3 ⟨v3, vals3, rfl, hO3, hb3⟩
        have HO3 : Hid (LoO w3 w.heap.size v3 vals3 (Wl.runA (t + 1) (xs.take (k + 1))).2.2) := by
          show LoO _ _ _ _ _
          rw [hs3.out]
          exact hO3.base hbel.out.size
        have HB3 : Hid (Below w.heap.size w w3) := hbel.out.trans (hb3.mono hbel.out.size)
        clear hO3 hb3
        go_wp2_with fail
        go_roundg (n - (k + 1))
        case rel => exact ⟨k + 1, _, vals3, by omega, rfl, rfl, by rw [hn2.out]; go_num, by go_num, HO3, HB3⟩
        case measure => omega
    · obtain rfl : k = n := by omega
      have i1 : ¬ (k : Int) < (k : Int) := by omega
      have e1 := HNX.out k (by rw [HN.out]; exact Nat.le_refl _)
      obtain ⟨b1, b2, b3⟩ := HBD.out k
      rw [e1]
      have HAU2 : Hid (Wl.auto xs = Wl.setF (Wl.runA (t + 1) (xs.take k)).2.2 t) := by rw [HN.out]; exact HAU.out
      generalize (Wl.runA (t + 1) (xs.take k)).2.2 = L at *
      obtain ⟨G, cp, rfl, hc1, hc2, hGB, hGl, _, hfz, hcl⟩ := hO.out.form (by omega)
      have hvl := hO.out.each.len
      have hvl2 : t < vals.length := by omega
      obtain ⟨d1, _, _⟩ := hcl t hvl2
      have f1 := hfz (t * 3)
      have HOF := Lib.hid (hO.out.fin (p := t) (by omega))
      obtain ⟨m, hm⟩ : ∃ m, m = L.length := ⟨_, rfl⟩
      have HLS : Hid (LoS (fun _ => True) (wr.setCell ⟨G, t * 3, none⟩ (.bool true)) (.slice (some ⟨G, 0, none⟩) m cp) (Wl.auto xs)) := by
        rw [HAU2.out, hm]
        exact HOF.out.los _ fun _ _ => trivial
      have HT := Lib.hid (HTT.out _ _ HLS.out)
      have HB2 : Hid (Below w.heap.size w (wr.setCell ⟨G, t * 3, none⟩ (.bool true))) := hbel.out.setCell (p := ⟨G, t * 3, none⟩) hGB _
      rw [← hm] at b1 b2 hc1 ⊢
      have i2 : (t : Int) < (m : Int) := by omega
      clear hcl hfz HOF b3 hm e1 HLS HTT
      go_wp2_with fail
      generalize wr.setCell ⟨G, t * 3, none⟩ (.bool true) = w4 at *
      refine HT.out.mono ?_
      rintro e w5 ⟨v5, rfl, hs5, hb5⟩
      have HS5 : Hid (StO w.heap.size w5 v5 (Au.tightL (Wl.auto xs) 20000)) := hs5.lower HB2.out.size
      have HB5 : Hid (Below w.heap.size w w5) := HB2.out.trans (hb5.mono HB2.out.size)
      clear hs5 hb5
      go_wp2_with fail
      go_ret2
      exact ⟨_, rfl, HS5.out, HB5.out⟩
end Go.Proofs.YtmhchajdeneabaaGreatDoor

/-
  What Prefix and Wild answer for patterns whose one star, if they have one, stands at their end; and the fixed answers of the stage.
-/
namespace Go.Proofs.YtmhchajdeneabaaGreatDoor
open Go.RowKit

namespace Wl
def inRB (p c : Int) : Bool := decide ((rng p).1 ≤ c ∧ c ≤ (rng p).2)
theorem inRB_iff {p c : Int} : inRB p c = true ↔ inR p c := decide_eq_true_iff
def hdB : List Int → List Int → Bool
  | p :: ps, c :: cs => inRB p c && hdB ps cs
  | _, _ => true
theorem hd_iff : ∀ (ps cs : List Int), Hd ps cs ↔ hdB ps cs = true
  | [], cs => by
    constructor
    · intro _
      cases cs <;> rfl
    · intro _ i p c h
      simp at h
  | p :: ps, [] => by
    constructor
    · intro _
      rfl
    · intro _ i p c _ h
      simp at h
  | p :: ps, c :: cs => by
    show _ ↔ (inRB p c && hdB ps cs) = true
    rw [Bool.and_eq_true, inRB_iff, ← hd_iff ps cs]
    constructor
    · intro h
      exact ⟨h 0 p c rfl rfl, fun i p' c' h1 h2 => h (i + 1) p' c' (by simpa using h1) (by simpa using h2)⟩
    · rintro ⟨h1, h2⟩ i p' c' h3 h4
      cases i with
      | zero =>
        simp at h3 h4
        subst h3 h4
        exact h1
      | succ i => exact h2 i p' c' (by simpa using h3) (by simpa using h4)
/-- The same as Meets, told by a program's way. -/
def meets (cs : List Int) (s : Bool) (t : List Int) : Bool := hdB cs t && (decide (cs.length = t.length) || (s && decide (cs.length ≤ t.length)))
theorem meets_iff {cs : List Int} {s : Bool} {t : List Int} : Meets cs s t ↔ meets cs s t = true := by
  unfold Meets meets
  rw [hd_iff, Bool.and_eq_true, Bool.or_eq_true, Bool.and_eq_true, decide_eq_true_iff, decide_eq_true_iff]
theorem Out.eq {cs : List Int} {s : Bool} {d : List Au.St} (h : Out cs s d) {l : List UInt8} (hv : Lib.validD l = true) : Au.takesL d l = meets cs s (Ut.dec l) := by
  rw [Bool.eq_iff_iff, h.takes l hv, meets_iff]
theorem wide_class {cs : List Int} (hc : ∀ c ∈ cs, c ≠ 42) (s : Bool) : wide (cs ++ tail s) = false := by
  rcases idx_cases (cs ++ tail s) 42 with ⟨h, _⟩ | ⟨k, h1, h2, h3⟩
  · exact wide_no h
  · rw [wide_at h1]
    have hk : cs.length ≤ k := by
      by_cases h : k < cs.length
      · rw [List.getElem?_append_left h] at h3
        exact absurd rfl (hc 42 (List.mem_of_getElem? h3))
      · omega
    cases s with
    | false => simp [tail] at h2; omega
    | true =>
      simp [tail] at h2
      obtain rfl : k = cs.length := by omega
      rw [show (cs ++ tail true).drop cs.length = tail true from by simp]
      rfl
end Wl

set_option maxRecDepth 100000 in
set_option maxHeartbeats 1000000 in
theorem prefix_ok (w : World) (s : ByteArray) (hT : Tabs w) (hs : s.size ≤ 17592186044415) (h : Wl.letE s.data.toList [] = 0) {d : List Au.St} (hd : Wl.Out (Wl.letS s.data.toList []) true d) :
    Calls Tryz.prog 10 #[.string s] w fun e w' => ∃ v, e = .returned (.tuple #[v, .int .i64 0]) ∧ StO w.heap.size w' v d ∧ Below w.heap.size w w' := by
  have hl := letters_any w s ⟨#[]⟩ hT hs
  unfold LetPost at hl
  have h0 : Wl.letE s.data.toList (⟨#[]⟩ : ByteArray).data.toList = 0 := h
  have hlen := (Wl.letE_ok h).2.2.2.1
  rw [h0] at hl
  have hS : Wl.letS s.data.toList (⟨#[]⟩ : ByteArray).data.toList = Wl.letS s.data.toList [] := rfl
  rw [hS] at hl
  have he := hd.e
  have hdl := hd.l
  have HAU : Hid (∀ W u, OwnI W w.heap.size u (Wl.letS s.data.toList [] ++ [42]) → Calls Tryz.prog 22 #[u] W fun e w' => ∃ v', e = .returned (.tuple #[v', .int .i64 0]) ∧ StO W.heap.size w' v' d ∧ Below W.heap.size W w') := fun W u hu => by
    have := auto_any W u (Wl.letS s.data.toList [] ++ [42]) (hu.ints (by rw [List.length_append, List.length_singleton]; omega)) (by rw [List.length_append, List.length_singleton]; omega)
    rw [show Wl.letS s.data.toList [] ++ [42] = Wl.letS s.data.toList [] ++ Wl.tail true from rfl, he, hdl] at this
    exact this
  generalize Wl.letS s.data.toList [] = S at *
  have HL := Lib.hid hl
  clear hl h0 h hS hd he hdl hT
  go_enter Tryz.func10, Tryz.ntmps10
  go_wp2_with fail
  refine HL.out.mono ?_
  rintro e w1 ⟨v, rfl, hown, hb⟩
  have HO := Lib.hid hown
  have HB := Lib.hid hb
  have HZ := Lib.hid hb.size
  obtain ⟨a6, c6, rfl, _⟩ := ownI_cells hown
  clear hown hb
  go_wp2_with (at_builtin; go_loud ((refine wpList_pushI rfl _ _ rfl w.heap.size HZ.out (.slice a6 S.length c6) S 42 rfl HO.out rfl (by omega) ?_; intro v5 w5 hown5 hb5 _)))
  have HA := Lib.hid (HAU.out w5 v5 hown5)
  have HB5 : Hid (Below w.heap.size w w5) := HB.out.trans hb5
  clear hown5 hb5 HAU
  go_wp2_with fail
  refine HA.out.mono ?_
  rintro e w6 ⟨v6, rfl, hs6, hb6⟩
  have HS6 : Hid (StO w.heap.size w6 v6 d) := hs6.lower HB5.out.size
  have HB6 : Hid (Below w.heap.size w w6) := HB5.out.trans (hb6.mono HB5.out.size)
  clear hs6 hb6
  go_wp2_with fail
  go_ret2
  exact ⟨_, rfl, HS6.out, HB6.out⟩

set_option maxRecDepth 100000 in
set_option maxHeartbeats 1000000 in
theorem prefix_bad (w : World) (s : ByteArray) (hT : Tabs w) (hs : s.size ≤ 17592186044415) (h : ¬ Wl.letE s.data.toList [] = 0) :
    Calls Tryz.prog 10 #[.string s] w fun e w' => e = .returned (.tuple #[.slice none 0 0, .int .i64 (Wl.letE s.data.toList [])]) ∧ Below w.heap.size w w' := by
  have hl := letters_any w s ⟨#[]⟩ hT hs
  unfold LetPost at hl
  have hl2 : Calls Tryz.prog 6 #[.string s, .string ⟨#[]⟩] w fun e w' => ∃ v, e = .returned (.tuple #[v, .int .i64 (Wl.letE s.data.toList [])]) ∧ OwnI w' w.heap.size v (Wl.letS s.data.toList []) ∧ Below w.heap.size w w' := hl
  generalize Wl.letE s.data.toList [] = E at *
  have h1 : (E != 0) = true := by simpa using h
  have HL := Lib.hid hl2
  clear hl hl2 hT h
  go_enter Tryz.func10, Tryz.ntmps10
  go_wp2_with fail
  refine HL.out.mono ?_
  rintro e w1 ⟨v, rfl, _, hb⟩
  have HB := Lib.hid hb
  clear hb
  go_wp2_with fail
  go_ret2
  exact ⟨rfl, HB.out⟩

set_option maxRecDepth 100000 in
set_option maxHeartbeats 1000000 in
theorem wild_ok (w : World) (s : ByteArray) (hT : Tabs w) (hs : s.size ≤ 17592186044415) (h : Wl.letE s.data.toList [42, 63] = 0) {cs : List Int} {b : Bool} (hc : ∀ c ∈ cs, c ≠ 42) (hx : Wl.letS s.data.toList [42, 63] = cs ++ Wl.tail b) {d : List Au.St} (hd : Wl.Out cs b d) :
    Calls Tryz.prog 15 #[.string s] w fun e w' => ∃ v, e = .returned (.tuple #[v, .int .i64 0]) ∧ StO w.heap.size w' v d ∧ Below w.heap.size w w' := by
  have hl := letters_any w s ⟨#[42, 63]⟩ hT hs
  unfold LetPost at hl
  have hlen := (Wl.letE_ok h).2.2.2.1
  have hl2 : Calls Tryz.prog 6 #[.string s, .string ⟨#[42, 63]⟩] w fun e w' => ∃ v, e = .returned (.tuple #[v, .int .i64 (Wl.letE s.data.toList [42, 63])]) ∧ OwnI w' w.heap.size v (Wl.letS s.data.toList [42, 63]) ∧ Below w.heap.size w w' := hl
  have he := hd.e
  have hdl := hd.l
  have hwd := Wl.wide_class hc b
  rw [h, hx] at hl2
  rw [hx] at hlen
  generalize cs ++ Wl.tail b = S at *
  have HTM : Hid (∀ W u, IntS W u S → Calls Tryz.prog 29 #[u] W fun e w' => e = .returned (.bool false) ∧ W = w') := fun W u hu => by
    have := tooMany_any u S W hu (by omega)
    rw [hwd] at this
    exact this
  have HAU : Hid (∀ W u, IntS W u S → Calls Tryz.prog 22 #[u] W fun e w' => ∃ v', e = .returned (.tuple #[v', .int .i64 0]) ∧ StO W.heap.size w' v' d ∧ Below W.heap.size W w') := fun W u hu => by
    have := auto_any W u S hu (by omega)
    rw [he, hdl] at this
    exact this
  have HL := Lib.hid hl2
  clear hl hl2 h hx hd he hdl hT hwd hc
  go_enter Tryz.func15, Tryz.ntmps15
  go_wp2_with fail
  refine HL.out.mono ?_
  rintro e w1 ⟨v, rfl, hown, hb⟩
  have HI := Lib.hid (hown.ints (by omega))
  have HB := Lib.hid hb
  clear hown hb
  go_wp2_with fail
  refine (HTM.out w1 v HI.out).mono ?_
  rintro e w2 ⟨rfl, rfl⟩
  go_wp2_with fail
  refine (HAU.out w1 v HI.out).mono ?_
  rintro e w6 ⟨v6, rfl, hs6, hb6⟩
  have HS6 : Hid (StO w.heap.size w6 v6 d) := hs6.lower HB.out.size
  have HB6 : Hid (Below w.heap.size w w6) := HB.out.trans (hb6.mono HB.out.size)
  clear hs6 hb6
  go_wp2_with fail
  go_ret2
  exact ⟨_, rfl, HS6.out, HB6.out⟩

namespace Wl
theorem awake_let : letE [102, 63, 120, 42] [42, 63] = 0 ∧ letS [102, 63, 120, 42] [42, 63] = [102, 63, 120] ++ tail true := by decide +kernel
theorem awake_takes : Lib.validD [102, 111, 120, 101, 115] = true ∧ Lib.validD [102, 195, 169, 120] = true ∧ Lib.validD [102, 120] = true ∧ meets [102, 63, 120] true (Ut.dec [102, 111, 120, 101, 115]) = true ∧ meets [102, 63, 120] true (Ut.dec [102, 195, 169, 120]) = true ∧ meets [102, 63, 120] true (Ut.dec [102, 120]) = false := by decide +kernel
theorem star_let : letE [42] [42, 63] = 0 ∧ letS [42] [42, 63] = [] ++ tail true := by decide +kernel
end Wl

set_option maxRecDepth 100000 in
set_option maxHeartbeats 2000000 in
theorem wildAwake_any (w : World) (hT : Tabs w) : Calls Tryz.prog 8 #[] w fun e w' => e = .returned (.bool true) ∧ Below w.heap.size w w' := by
  have hc : ∀ c ∈ ([102, 63, 120] : List Int), c ≠ 42 := by decide
  obtain ⟨d, hd⟩ := Wl.auto_out hc true (by decide)
  have HW := Lib.hid (wild_ok w ⟨#[102, 63, 120, 42]⟩ hT (by decide) Wl.awake_let.1 hc Wl.awake_let.2 hd)
  obtain ⟨k1, k2, k3, k4, k5, k6⟩ := Wl.awake_takes
  have HA : Hid (∀ W v, StS (fun _ => True) W v d → (Calls Tryz.prog 12 #[v, .string ⟨#[102, 111, 120, 101, 115]⟩] W fun e w' => e = .returned (.bool true) ∧ Below W.heap.size W w') ∧ (Calls Tryz.prog 12 #[v, .string ⟨#[102, 195, 169, 120]⟩] W fun e w' => e = .returned (.bool true) ∧ Below W.heap.size W w') ∧ (Calls Tryz.prog 12 #[v, .string ⟨#[102, 120]⟩] W fun e w' => e = .returned (.bool false) ∧ Below W.heap.size W w')) := fun W v hv => by
    have h1 := acceptsP_any _ W v d ⟨#[102, 111, 120, 101, 115]⟩ (by decide) hv
    have h2 := acceptsP_any _ W v d ⟨#[102, 195, 169, 120]⟩ (by decide) hv
    have h3 := acceptsP_any _ W v d ⟨#[102, 120]⟩ (by decide) hv
    have e1 : Au.takesL d (⟨#[102, 111, 120, 101, 115]⟩ : ByteArray).data.toList = true := (hd.eq k1).trans k4
    have e2 : Au.takesL d (⟨#[102, 195, 169, 120]⟩ : ByteArray).data.toList = true := (hd.eq k2).trans k5
    have e3 : Au.takesL d (⟨#[102, 120]⟩ : ByteArray).data.toList = false := (hd.eq k3).trans k6
    rw [e1] at h1
    rw [e2] at h2
    rw [e3] at h3
    exact ⟨h1, h2, h3⟩
  clear hd hc k1 k2 k3 k4 k5 k6 hT
  go_enter Tryz.func8, Tryz.ntmps8
  go_wp2_with fail
  refine HW.out.mono ?_
  rintro e w1 ⟨v, rfl, hs, hb⟩
  have HV : Hid (∀ W, Below w1.heap.size w1 W → StS (fun _ => True) W v d) := fun W hb => (hs.sts.below hb).wide fun _ _ _ => trivial
  have HB := Lib.hid hb
  have HA1 := Lib.hid (HA.out w1 v (HV.out w1 (Below.refl _ _))).1
  obtain ⟨a, c, rfl, _⟩ := hs.sts
  clear hs hb
  go_wp2_with fail
  refine HA1.out.mono ?_
  rintro e w2 ⟨rfl, hb2⟩
  have HB2 := Lib.hid hb2
  have HA2 := Lib.hid (HA.out w2 _ (HV.out w2 hb2)).2.1
  clear hb2
  go_wp2_with fail
  refine HA2.out.mono ?_
  rintro e w3 ⟨rfl, hb3⟩
  have HB3 : Hid (Below w1.heap.size w1 w3) := HB2.out.trans (hb3.mono HB2.out.size)
  have HA3 := Lib.hid (HA.out w3 _ (HV.out w3 HB3.out)).2.2
  clear hb3
  go_wp2_with fail
  refine HA3.out.mono ?_
  rintro e w4 ⟨rfl, hb4⟩
  have HB4 : Hid (Below w1.heap.size w1 w4) := HB3.out.trans (hb4.mono HB3.out.size)
  clear hb4
  go_wp2_with fail
  go_ret
  exact ⟨rfl, HB.out.trans (HB4.out.mono HB.out.size)⟩
end Go.Proofs.YtmhchajdeneabaaGreatDoor

/-
  WildLetters: the walk.
-/
namespace Go.Proofs.YtmhchajdeneabaaGreatDoor
open Go.RowKit

namespace Wl
theorem letS_len (l m : List UInt8) : (letS l m).length ≤ 16 := by
  by_cases h : letE l m = 0
  · exact (letE_ok h).2.2.2.1
  · rw [letS_no h]
    simp
end Wl

set_option maxRecDepth 100000 in
set_option maxHeartbeats 2000000 in
theorem wletters_walk (w : World) (s m : ByteArray) (hT : Tabs w) (hs : s.size ≤ 1048576) (hm : m.size ≤ 1048576) :
    Calls Tryz.prog 3 #[.string s, .string m] w fun e w' => e = .returned (.bool true) ∧ Below w.heap.size w w' := by
  have h1 := letters_any w s m hT (by omega)
  have HR := Lib.hid (fun W => lettersR_any W s m (by omega) (by omega))
  unfold LetPost at h1 HR
  have HT := Lib.hid hT
  have hlen := Wl.letS_len s.data.toList m.data.toList
  generalize Wl.letE s.data.toList m.data.toList = E at *
  generalize Wl.letS s.data.toList m.data.toList = S at *
  have HL := Lib.hid h1
  clear h1 hT
  go_enter Tryz.func3, Tryz.ntmps3
  go_wp2_with fail
  refine HL.out.mono ?_
  rintro e w1 ⟨v1, rfl, ho1, hb1⟩
  have HI1 := Lib.hid (ho1.ints (by omega))
  have HB1 := Lib.hid hb1
  have HT1 : Hid (Tabs w1) := HT.out.below hb1
  clear ho1 hb1
  go_wp2_with fail
  refine (HR.out w1).mono ?_
  rintro e w2 ⟨v2, rfl, ho2, hb2⟩
  have HI2 := Lib.hid (ho2.ints (by omega))
  have HI12 : Hid (IntS w2 v1 S) := HI1.out.below hb2 (Nat.le_refl _)
  have HB2 : Hid (Below w.heap.size w w2) := HB1.out.trans (hb2.mono HB1.out.size)
  have HT2 : Hid (Tabs w2) := HT1.out.below hb2
  clear ho2 hb2 HI1
  go_wp2_with fail
  refine (wildAwake_any w2 HT2.out).mono ?_
  rintro e w3 ⟨rfl, hb3⟩
  have HN := Lib.hid (numbers_any w3 v1 v2 S S (HI12.out.below hb3 (Nat.le_refl _)) (HI2.out.below hb3 (Nat.le_refl _)) (by omega) (by omega))
  have HB3 : Hid (Below w.heap.size w w3) := HB2.out.trans (hb3.mono HB2.out.size)
  rw [decide_eq_true rfl] at HN
  clear hb3
  go_wp2_with fail
  refine HN.out.mono ?_
  rintro e w4 ⟨rfl, hb4⟩
  have HB4 : Hid (Below w.heap.size w w4) := HB3.out.trans (hb4.mono HB3.out.size)
  clear hb4
  go_wp2_with fail
  go_ret
  exact ⟨rfl, HB4.out⟩
end Go.Proofs.YtmhchajdeneabaaGreatDoor

/-
  DfaTakes: the walk.
-/
namespace Go.Proofs.YtmhchajdeneabaaGreatDoor
open Go.RowKit
/-- A slice of texts that came in: empty, or a row of cells. -/
def TxtS (w : World) (a : Option Addr) (len : Nat) (ss : List ByteArray) : Prop :=
  ss.length = len ∧ (0 < len → ∃ b off, a = some ⟨b, off, none⟩ ∧ b < w.heap.size ∧ ∀ i (hi : i < ss.length), w.cell? ⟨b, off + i, none⟩ = some (.string ss[i]))

end Go.Proofs.YtmhchajdeneabaaGreatDoor

/-
  WildPrefixes: the walk.
-/
namespace Go.Proofs.YtmhchajdeneabaaGreatDoor
open Go.RowKit

namespace Wl
theorem letS_letters {l : List UInt8} (h : letE l [] = 0) : ∀ c ∈ letS l [], Ut.letter c = true := fun c hc => okC_nil ((letE_ok h).2.2.2.2 c hc)
theorem prefix_takes {l : List UInt8} (h : letE l [] = 0) : ∃ d, Out (letS l []) true d ∧ ∀ t : List UInt8, Lib.validD t = true → Au.takesL d t = begins (Ut.dec t) (letS l []) := by
  have hc := fun c hc => letter_marks (letS_letters h c hc)
  obtain ⟨d, hd⟩ := auto_out (fun c q => (hc c q).1) true (letS_len l [])
  refine ⟨d, hd, fun t ht => ?_⟩
  rw [Bool.eq_iff_iff, hd.takes t ht, meets_begins fun c q => (hc c q).2]
end Wl

set_option maxRecDepth 100000 in
set_option maxHeartbeats 4000000 in
theorem wprefixes_walk (w : World) (s : ByteArray) (a : Option Addr) (len cap : Nat) (ss : List ByteArray) (hT : Tabs w) (hs : s.size ≤ 1048576) (ht : TxtS w a len ss) (hss : ∀ t ∈ ss, t.size ≤ 1048576) (_hl : len ≤ 9223372036854775807) :
    Calls Tryz.prog 4 #[.string s, .slice a len cap] w fun e w' => e = .returned (.bool true) ∧ Below w.heap.size w w' := by
  have HT := Lib.hid hT
  have HSS := Lib.hid hss
  have HTX := Lib.hid ht
  have hr := fun W => lettersR_any W s ⟨#[]⟩ (by omega) (by decide)
  unfold LetPost at hr
  have HR : Hid (∀ W, Calls Tryz.prog 7 #[.string s, .string ⟨#[]⟩] W fun e w' => ∃ v, e = .returned (.tuple #[v, .int .i64 (Wl.letE s.data.toList [])]) ∧ OwnI w' W.heap.size v (Wl.letS s.data.toList []) ∧ Below W.heap.size W w') := hr
  have hlen := Wl.letS_len s.data.toList []
  by_cases h0 : Wl.letE s.data.toList [] = 0
  · obtain ⟨d, hd, htk⟩ := Wl.prefix_takes h0
    have HP := Lib.hid (prefix_ok w s hT (by omega) h0 hd)
    have HTK := Lib.hid htk
    have HF := Lib.hid hd.fits
    rw [h0] at HR
    generalize Wl.letS s.data.toList [] = S at *
    clear hr h0 hd htk hT ht hss
    go_enter Tryz.func4, Tryz.ntmps4
    go_wp2_with fail
    refine HP.out.mono ?_
    rintro e w1 ⟨v1, rfl, hs1, hb1⟩
    have HV1 : Hid (∀ W, Below w1.heap.size w1 W → StS (fun _ => True) W v1 d) := fun W hb => (hs1.sts.below hb).wide fun _ _ _ => trivial
    have HB1 := Lib.hid hb1
    obtain ⟨a1, c1, rfl, _⟩ := hs1.sts
    clear hs1 hb1
    go_wp2_with fail
    refine (HR.out w1).mono ?_
    rintro e w2 ⟨v2, rfl, ho2, hb2⟩
    have HI2 := Lib.hid (ho2.ints (by omega))
    have HB12 := Lib.hid hb2
    have HB2 : Hid (Below w.heap.size w w2) := HB1.out.trans (hb2.mono HB1.out.size)
    obtain ⟨a2, c2, rfl, _⟩ := ownI_cells ho2
    have HT2 : Hid (Tabs w2) := HT.out.below HB2.out
    clear ho2 hb2
    go_wp2_with fail
    refine (wildAwake_any w2 HT2.out).mono ?_
    rintro e w3 ⟨rfl, hb3⟩
    have HI3 : Hid (∀ W, Below w3.heap.size w3 W → IntS W (.slice a2 S.length c2) S) := fun W hb => (HI2.out.below hb3 (Nat.le_refl _)).below hb (Nat.le_refl _)
    have HB13 : Hid (Below w1.heap.size w1 w3) := HB12.out.trans (hb3.mono HB12.out.size)
    have HB3 : Hid (Below w.heap.size w w3) := HB2.out.trans (hb3.mono HB2.out.size)
    have HV3 : Hid (∀ W, Below w3.heap.size w3 W → StS (fun _ => True) W (.slice a1 d.length c1) d) := fun W hb => HV1.out W (HB13.out.trans (hb.mono HB13.out.size))
    have HTX3 : Hid (∀ W, Below w3.heap.size w3 W → ∀ i (hi : i < ss.length), ∃ b off, a = some ⟨b, off, none⟩ ∧ W.cell? ⟨b, off + i, none⟩ = some (.string ss[i])) := fun W hb i hi => by
      obtain ⟨h1, h2⟩ := HTX.out
      obtain ⟨b, off, e, hlt, hc⟩ := h2 (by omega)
      exact ⟨b, off, e, ((HB3.out.trans (hb.mono HB3.out.size)).cell (p := ⟨b, off + i, none⟩) hlt).trans (hc i hi)⟩
    have HLN : Hid (ss.length = len) := HTX.out.1
    clear hb3 HI2 HB12 HV1 HT2
    go_wp2_with fail
    go_loopg [9] len (fun g i wx => ∃ k : Nat, Below w3.heap.size w3 wx ∧ k ≤ len ∧ g = len - k ∧ i = .int .i64 k)
    case atStart => exact ⟨0, Below.refl _ _, Nat.zero_le _, rfl, rfl⟩
    case round =>
      obtain ⟨k, hbel, hk, rfl, rfl⟩ := hrel
      have HBE := Lib.hid hbel
      have HEND : Hid (Calls Tryz.prog 14 #[.slice a1 d.length c1] wr fun e w' => e = .returned (.int .i64 0) ∧ Below wr.heap.size wr w') := by
        have := checkP_any (fun _ => True) wr _ d (HV3.out wr hbel)
        rw [(Au.check_iff d).2 HF.out] at this
        exact this
      by_cases hkn : k < len
      · have i1 : (k : Int) < (len : Int) := by omega
        by_cases hk20 : k < 20
        · have i2 : (k : Int) < 20 := by omega
          have kx : k < ss.length := by rw [HLN.out]; exact hkn
          obtain ⟨b, off, rfl, hc1⟩ := HTX3.out wr hbel k kx
          have hsz := HSS.out ss[k] (List.getElem_mem kx)
          have hdc := decodeR_any wr ss[k] (by omega)
          unfold DecPost at hdc
          have HCX : Hid (∀ W, Below w3.heap.size w3 W → W.cell? ⟨b, off + k, none⟩ = some (.string ss[k])) := fun W hb => by
            obtain ⟨b', off', e, h⟩ := HTX3.out W hb k kx
            cases e
            exact h
          have HAC : Hid (∀ W, Below w3.heap.size w3 W → Ut.decE ss[k].data.toList = 0 → Calls Tryz.prog 12 #[.slice a1 d.length c1, .string ss[k]] W fun e w' => e = .returned (.bool (Wl.begins (Ut.decS ss[k].data.toList) S)) ∧ Below W.heap.size W w') := fun W hb he => by
            have hv : Lib.validD ss[k].data.toList = true := by
              cases h : Lib.validD ss[k].data.toList
              · rw [Ut.decE_no h] at he; cases he
              · rfl
            have := acceptsP_any _ W _ d ss[k] (by omega) (HV3.out W hb)
            rw [HTK.out _ hv] at this
            rw [Ut.decS_yes hv]
            exact this
          have hdl := Ut.decS_length ss[k].data.toList
          rw [show ss[k].data.toList.length = ss[k].size from by simp] at hdl
          generalize Ut.decE ss[k].data.toList = E at *
          generalize Ut.decS ss[k].data.toList = D at *
          generalize ss[k] = t at *
          have HD := Lib.hid hdc
          clear hbel hdc
          go_wp2_with fail
          refine HD.out.mono ?_
          rintro e w4 ⟨v4, rfl, ho4, hb4⟩
          have HI4 := Lib.hid (ho4.ints (by omega))
          have HB4 : Hid (Below w3.heap.size w3 w4) := HBE.out.trans (hb4.mono HBE.out.size)
          obtain ⟨a4, c4, rfl, _⟩ := ownI_cells ho4
          clear ho4 hb4
          by_cases hE : E = 0
          · subst hE
            have d1 := HCX.out w4 HB4.out
            have HA4 := Lib.hid (HAC.out w4 HB4.out rfl)
            obtain ⟨bb, hbb⟩ : ∃ bb, Wl.begins D S = bb := ⟨_, rfl⟩
            rw [hbb] at HA4
            have HBG : Hid (∀ W, Below w4.heap.size w4 W → Calls Tryz.prog 13 #[.slice a4 D.length c4, .slice a2 S.length c2] W fun e w' => e = .returned (.bool bb) ∧ Below W.heap.size W w') := fun W hb => by
              have := begins_any _ _ D S W (HI4.out.below hb (Nat.le_refl _)) (HI3.out W (HB4.out.trans (hb.mono HB4.out.size))) (by omega) (by omega)
              rw [hbb] at this
              exact this
            have hxor : (bb != bb) = false := by cases bb <;> rfl
            clear hbb
            go_wp2_with fail
            refine HA4.out.mono ?_
            rintro e w5 ⟨rfl, hb5⟩
            have HB5 : Hid (Below w3.heap.size w3 w5) := HB4.out.trans (hb5.mono HB4.out.size)
            have HBG5 := Lib.hid (HBG.out w5 hb5)
            clear hb5
            go_wp2_with fail
            refine HBG5.out.mono ?_
            rintro e w6 ⟨rfl, hb6⟩
            have HB6 : Hid (Below w3.heap.size w3 w6) := HB5.out.trans (hb6.mono HB5.out.size)
            clear hb6
            go_wp2_with fail
            go_roundg (len - (k + 1))
            case rel => exact ⟨k + 1, HB6.out, by omega, rfl, by go_num⟩
            case measure => omega
          · have he : (E == 0) = false := by simpa using hE
            go_wp2_with fail
            go_roundg (len - (k + 1))
            case rel => exact ⟨k + 1, HB4.out, by omega, rfl, by go_num⟩
            case measure => omega
        · have i2 : ¬ (k : Int) < 20 := by omega
          clear hbel
          go_wp2_with fail
          refine HEND.out.mono ?_
          rintro e w4 ⟨rfl, hb4⟩
          have HB4 : Hid (Below w3.heap.size w3 w4) := HBE.out.trans (hb4.mono HBE.out.size)
          clear hb4
          go_wp2_with fail
          go_ret
          exact ⟨rfl, HB3.out.trans (HB4.out.mono HB3.out.size)⟩
      · have i1 : ¬ (k : Int) < (len : Int) := by omega
        clear hbel
        go_wp2_with fail
        refine HEND.out.mono ?_
        rintro e w4 ⟨rfl, hb4⟩
        have HB4 : Hid (Below w3.heap.size w3 w4) := HBE.out.trans (hb4.mono HBE.out.size)
        clear hb4
        go_wp2_with fail
        go_ret
        exact ⟨rfl, HB3.out.trans (HB4.out.mono HB3.out.size)⟩
  · have HP := Lib.hid (prefix_bad w s hT (by omega) h0)
    generalize Wl.letE s.data.toList [] = E at *
    generalize Wl.letS s.data.toList [] = S at *
    have he : (E != 0) = true := by simpa using h0
    have he2 : (E == 0) = false := by simpa using h0
    clear hr h0 hT ht hss
    go_enter Tryz.func4, Tryz.ntmps4
    go_wp2_with fail
    refine HP.out.mono ?_
    rintro e w1 ⟨rfl, hb1⟩
    have HB1 := Lib.hid hb1
    clear hb1
    go_wp2_with fail
    refine (HR.out w1).mono ?_
    rintro e w2 ⟨v2, rfl, _, hb2⟩
    have HB2 : Hid (Below w.heap.size w w2) := HB1.out.trans (hb2.mono HB1.out.size)
    have HT2 : Hid (Tabs w2) := HT.out.below HB2.out
    clear hb2
    go_wp2_with fail
    refine (wildAwake_any w2 HT2.out).mono ?_
    rintro e w3 ⟨rfl, hb3⟩
    have HB3 : Hid (Below w.heap.size w w3) := HB2.out.trans (hb3.mono HB2.out.size)
    have HT3 : Hid (Tabs w3) := HT.out.below HB3.out
    clear hb3
    go_wp2_with fail
    refine (wildAwake_any w3 HT3.out).mono ?_
    rintro e w4 ⟨rfl, hb4⟩
    have HB4 : Hid (Below w.heap.size w w4) := HB3.out.trans (hb4.mono HB3.out.size)
    clear hb4
    go_wp2_with fail
    go_ret
    exact ⟨rfl, HB4.out⟩
end Go.Proofs.YtmhchajdeneabaaGreatDoor

/-
  WildSame: the walk.
-/
namespace Go.Proofs.YtmhchajdeneabaaGreatDoor
open Go.RowKit

namespace Wl
theorem letE_all {l m : List UInt8} (h0 : Ut.decE l = 0) (h1 : ¬ 16 < (Ut.decS l).length) (h2 : ¬ (Ut.decS l).length = 0) (h3 : ((Ut.decS l).map Ut.fold).all (okC m) = true) : letE l m = 0 ∧ letS l m = (Ut.decS l).map Ut.fold := by
  have h : letE l m = 0 := by rw [letE_yes h0, if_neg h1, if_neg h2, if_pos h3]
  exact ⟨h, if_pos h⟩
theorem dec_whole {l : List UInt8} (h : Lib.validD l = true) : Ut.decE l = 0 ∧ Ut.decS l = Ut.dec l := ⟨Ut.decE_yes h, Ut.decS_yes h⟩
/-- What may be without marks may be with them. -/
theorem let_any {l : List UInt8} (h : letE l [] = 0) (m : List UInt8) : letE l m = 0 ∧ letS l m = letS l [] := by
  obtain ⟨hv, hs, h1, h2, h3⟩ := letE_ok h
  obtain ⟨e1, e2⟩ := dec_whole hv
  have hlen : (letS l []).length = (Ut.decS l).length := by rw [hs, List.length_map, e2]
  obtain ⟨k1, k2⟩ := letE_all (m := m) e1 (by omega) (by omega) (by
    rw [List.all_eq_true]
    intro c hc
    rw [e2, ← hs] at hc
    rw [okC_eq, okC_nil (h3 c hc)]
    rfl)
  exact ⟨k1, by rw [k2, hs, e2]⟩
theorem dec_star {l : List UInt8} (hv : Lib.validD l = true) : Lib.validD (l ++ [42]) = true ∧ Ut.dec (l ++ [42]) = Ut.dec l ++ [42] := by
  obtain ⟨e1, e2⟩ := Ut.enc_dec l.length l (Nat.le_refl _) hv
  have e3 : Ut.enc (Ut.dec l ++ [42]) = l ++ [42] := by
    rw [Ut.enc_snoc, e1]
    rfl
  have e4 : Ut.allW (Ut.dec l ++ [42]) = true := by
    rw [Ut.allW_append, e2]
    rfl
  have := Ut.dec_enc _ e4
  rw [e3] at this
  exact this
/-- A star more. -/
theorem let_star {l : List UInt8} (h : letE l [] = 0) (hl : (letS l []).length ≤ 15) : letE (l ++ [42]) [42, 63] = 0 ∧ letS (l ++ [42]) [42, 63] = letS l [] ++ tail true := by
  obtain ⟨hv, hs, h1, h2, h3⟩ := letE_ok h
  obtain ⟨hv2, hd⟩ := dec_star hv
  obtain ⟨e1, e2⟩ := dec_whole hv2
  have hm : (Ut.decS (l ++ [42])).map Ut.fold = letS l [] ++ [42] := by
    rw [e2, hd, List.map_append, hs]
    rfl
  have hlen : (Ut.decS (l ++ [42])).length = (letS l []).length + 1 := by
    rw [← List.length_map (f := Ut.fold), hm, List.length_append, List.length_singleton]
  obtain ⟨k1, k2⟩ := letE_all (m := [42, 63]) e1 (by omega) (by omega) (by
    rw [hm, List.all_append, Bool.and_eq_true]
    refine ⟨List.all_eq_true.2 fun c hc => ?_, by decide⟩
    rw [okC_eq, okC_nil (h3 c hc)]
    rfl)
  exact ⟨k1, by rw [k2, hm]; rfl⟩
theorem letS_whole {l : List UInt8} (h : letE l [] = 0) : Ut.allW (letS l []) = true := Ut.allW_iff.2 fun c hc => by
  rw [(letE_ok h).2.1, ← (dec_whole (letE_ok h).1).2] at hc
  exact fold_whole l c hc
theorem begins_self (l : List Int) : begins l l = true := decide_eq_true ⟨Nat.le_refl _, List.take_length⟩
theorem begins_none (l : List Int) : begins l [] = true := decide_eq_true ⟨Nat.zero_le _, rfl⟩
/-- The automata of a pattern without marks, of it and a star, of a star alone. -/
theorem same_outs {l : List UInt8} (h : letE l [] = 0) : ∃ dA dB dD, Out (letS l []) false dA ∧ Out (letS l []) true dB ∧ Out [] true dD ∧
    (∀ t : List UInt8, Lib.validD t = true → Au.takesL dA t = decide (t = Ut.enc (letS l [])) ∧ Au.takesL dB t = begins (Ut.dec t) (letS l []) ∧ Au.takesL dD t = true) ∧ Au.takesL dA (Ut.enc (letS l [])) = true ∧ Au.takesL dB (Ut.enc (letS l [])) = true := by
  have hc := fun c hc => letter_marks (letS_letters h c hc)
  obtain ⟨dA, hA⟩ := auto_out (fun c q => (hc c q).1) false (letS_len l [])
  obtain ⟨dB, hB⟩ := auto_out (fun c q => (hc c q).1) true (letS_len l [])
  obtain ⟨dD, hD⟩ := auto_out (cs := []) (fun c q => by cases q) true (by decide)
  have hw := letS_whole h
  obtain ⟨k1, k2⟩ := Ut.dec_enc _ hw
  have key : ∀ t : List UInt8, Lib.validD t = true → Au.takesL dA t = decide (t = Ut.enc (letS l [])) ∧ Au.takesL dB t = begins (Ut.dec t) (letS l []) ∧ Au.takesL dD t = true := fun t ht => by
    refine ⟨?_, ?_, ?_⟩
    · rw [Bool.eq_iff_iff, hA.takes t ht, meets_all fun c q => (hc c q).2, decide_eq_true_iff]
      constructor
      · intro e
        rw [← e, (Ut.enc_dec t.length t (Nat.le_refl _) ht).1]
      · intro e
        rw [e, k2]
    · rw [Bool.eq_iff_iff, hB.takes t ht, meets_begins fun c q => (hc c q).2]
    · rw [hD.takes t ht, meets_begins fun c q => by cases q]
      exact begins_none _
  refine ⟨dA, dB, dD, hA, hB, hD, key, ?_, ?_⟩
  · rw [(key _ k1).1]
    exact decide_eq_true rfl
  · rw [(key _ k1).2.1, k2]
    exact begins_self _
end Wl
theorem wild_at (w : World) (s : ByteArray) {l : List UInt8} (hl : s.data.toList = l) (hT : Tabs w) (hs : s.size ≤ 17592186044415) (h : Wl.letE l [42, 63] = 0) {cs : List Int} {b : Bool} (hc : ∀ c ∈ cs, c ≠ 42) (hx : Wl.letS l [42, 63] = cs ++ Wl.tail b) {d : List Au.St} (hd : Wl.Out cs b d) :
    Calls Tryz.prog 15 #[.string s] w fun e w' => ∃ v, e = .returned (.tuple #[v, .int .i64 0]) ∧ StO w.heap.size w' v d ∧ Below w.heap.size w w' := by
  subst hl
  exact wild_ok w s hT hs h hc hx hd
theorem star_text (s : ByteArray) : (s ++ ⟨#[42]⟩).data.toList = s.data.toList ++ [42] := by simp

set_option maxRecDepth 100000 in
set_option maxHeartbeats 4000000 in
theorem wsame_walk (w : World) (s t : ByteArray) (hT : Tabs w) (hs : s.size ≤ 1048576) (ht : t.size ≤ 1048576) :
    Calls Tryz.prog 5 #[.string s, .string t] w fun e w' => e = .returned (.bool true) ∧ Below w.heap.size w w' := by
  have HT := Lib.hid hT
  have hl := letters_any w s ⟨#[]⟩ hT (by omega)
  unfold LetPost at hl
  have hl2 : Calls Tryz.prog 6 #[.string s, .string ⟨#[]⟩] w fun e w' => ∃ v, e = .returned (.tuple #[v, .int .i64 (Wl.letE s.data.toList [])]) ∧ OwnI w' w.heap.size v (Wl.letS s.data.toList []) ∧ Below w.heap.size w w' := hl
  have hlen := Wl.letS_len s.data.toList []
  have HAW : Hid (∀ W, Below w.heap.size w W → Calls Tryz.prog 8 #[] W fun e w' => e = .returned (.bool true) ∧ Below W.heap.size W w') := fun W hb => wildAwake_any W (HT.out.below hb)
  by_cases h0 : Wl.letE s.data.toList [] = 0 ∧ (Wl.letS s.data.toList []).length ≤ 15
  · obtain ⟨h0, h15⟩ := h0
    obtain ⟨dA, dB, dD, oA, oB, oD, htk, hfa, hfb⟩ := Wl.same_outs h0
    obtain ⟨a1, a2⟩ := Wl.let_any h0 [42, 63]
    have a3 : Wl.letS s.data.toList [42, 63] = Wl.letS s.data.toList [] ++ Wl.tail false := by rw [a2]; exact (List.append_nil _).symm
    obtain ⟨b1, b2⟩ := Wl.let_star h0 h15
    obtain ⟨s1, s2⟩ := Wl.star_let
    have hmk := fun c hc => (Wl.letter_marks (Wl.letS_letters h0 c hc)).1
    have hsz : (s ++ ⟨#[42]⟩).size ≤ 17592186044415 := by
      have : (⟨#[42]⟩ : ByteArray).size = 1 := rfl
      rw [ByteArray.size_append]
      omega
    have xHWA := fun (W : World) (hb : Below w.heap.size w W) => wild_at W s rfl (HT.out.below hb) (by omega) a1 hmk a3 oA
    have HWA : Hid (∀ W, Below w.heap.size w W → Calls Tryz.prog 15 #[.string s] W fun e w' => ∃ v, e = .returned (.tuple #[v, .int .i64 0]) ∧ StO W.heap.size w' v dA ∧ Below W.heap.size W w') := xHWA
    clear xHWA
    have xHWB := fun (W : World) (hb : Below w.heap.size w W) => wild_at W (s ++ ⟨#[42]⟩) (star_text s) (HT.out.below hb) hsz b1 hmk b2 oB
    have HWB : Hid (∀ W, Below w.heap.size w W → Calls Tryz.prog 15 #[.string (s ++ ⟨#[42]⟩)] W fun e w' => ∃ v, e = .returned (.tuple #[v, .int .i64 0]) ∧ StO W.heap.size w' v dB ∧ Below W.heap.size W w') := xHWB
    clear xHWB
    have xHPC := fun (W : World) (hb : Below w.heap.size w W) => prefix_ok W s (HT.out.below hb) (by omega) h0 oB
    have HPC : Hid (∀ W, Below w.heap.size w W → Calls Tryz.prog 10 #[.string s] W fun e w' => ∃ v, e = .returned (.tuple #[v, .int .i64 0]) ∧ StO W.heap.size w' v dB ∧ Below W.heap.size W w') := xHPC
    clear xHPC
    have xHWD := fun (W : World) (hb : Below w.heap.size w W) => wild_at W ⟨#[42]⟩ (l := [42]) rfl (HT.out.below hb) (by decide) s1 (cs := []) (b := true) (fun c q => by cases q) s2 oD
    have HWD : Hid (∀ W, Below w.heap.size w W → Calls Tryz.prog 15 #[.string ⟨#[42]⟩] W fun e w' => ∃ v, e = .returned (.tuple #[v, .int .i64 0]) ∧ StO W.heap.size w' v dD ∧ Below W.heap.size W w') := xHWD
    clear xHWD
    have hwh := Wl.letS_whole h0
    have helen := (Ut.enc_length (Wl.letS s.data.toList [])).2
    have HEN : Hid (∀ W v, IntS W v (Wl.letS s.data.toList []) → Calls Tryz.prog 16 #[v] W fun e w' => e = .returned (.tuple #[.string ⟨(Ut.enc (Wl.letS s.data.toList [])).toArray⟩, .int .i64 0]) ∧ Below W.heap.size W w') := fun W v hv => by
      have := encodeR_any W v _ hv (by omega)
      unfold EncPost at this
      rw [Ut.encS_yes hwh, Ut.encE_yes hwh] at this
      exact this
    have hdc := fun W => decodeR_any W t (by omega)
    unfold DecPost at hdc
    have HDC := Lib.hid hdc
    obtain ⟨F, hF⟩ : ∃ F : ByteArray, F = ⟨(Ut.enc (Wl.letS s.data.toList [])).toArray⟩ := ⟨_, rfl⟩
    have hFs : F.size ≤ 64 := by rw [hF]; show (Ut.enc (Wl.letS s.data.toList [])).toArray.size ≤ 64; rw [List.size_toArray]; omega
    have hFl : F.data.toList = Ut.enc (Wl.letS s.data.toList []) := by rw [hF]
    rw [← hF] at HEN
    rw [← hFl] at hfa hfb
    have HFA : Hid (∀ W v, StS (fun _ => True) W v dA → Calls Tryz.prog 12 #[v, .string F] W fun e w' => e = .returned (.bool true) ∧ Below W.heap.size W w') := fun W v hv => by
      have := acceptsP_any _ W v dA F (by omega) hv
      rw [hfa] at this
      exact this
    have HFB : Hid (∀ W v, StS (fun _ => True) W v dB → Calls Tryz.prog 12 #[v, .string F] W fun e w' => e = .returned (.bool true) ∧ Below W.heap.size W w') := fun W v hv => by
      have := acceptsP_any _ W v dB F (by omega) hv
      rw [hfb] at this
      exact this
    have HTA : Hid (Ut.decE t.data.toList = 0 → ∃ q1 q2 : Bool, (t.toList == F.toList) = q1 ∧ (∀ W v, StS (fun _ => True) W v dA → Calls Tryz.prog 12 #[v, .string t] W fun e w' => e = .returned (.bool q1) ∧ Below W.heap.size W w') ∧ (∀ W v, StS (fun _ => True) W v dB → Calls Tryz.prog 12 #[v, .string t] W fun e w' => e = .returned (.bool q2) ∧ Below W.heap.size W w') ∧ (∀ W v, StS (fun _ => True) W v dD → Calls Tryz.prog 12 #[v, .string t] W fun e w' => e = .returned (.bool true) ∧ Below W.heap.size W w')) := fun he => by
      have hv : Lib.validD t.data.toList = true := by
        cases h : Lib.validD t.data.toList
        · rw [Ut.decE_no h] at he; cases he
        · rfl
      obtain ⟨k1, k2, k3⟩ := htk _ hv
      refine ⟨decide (t.data.toList = F.data.toList), Wl.begins (Ut.dec t.data.toList) (Wl.letS s.data.toList []), ?_, fun W v hv => ?_, fun W v hv => ?_, fun W v hv => ?_⟩
      · rw [ByteArray.toList_eq, ByteArray.toList_eq]
        by_cases e : t.data.toList = F.data.toList
        · rw [decide_eq_true e]; simpa using e
        · rw [decide_eq_false e]; simpa using e
      · have := acceptsP_any _ W v dA t (by omega) hv
        rw [k1, ← hFl] at this
        exact this
      · have := acceptsP_any _ W v dB t (by omega) hv
        rw [k2] at this
        exact this
      · have := acceptsP_any _ W v dD t (by omega) hv
        rw [k3] at this
        exact this
    rw [h0] at hl2
    have HL := Lib.hid hl2
    have q1 : ¬ 9223372036854775807 < s.size + (⟨#[42]⟩ : ByteArray).size := by
      have : (⟨#[42]⟩ : ByteArray).size = 1 := rfl
      omega
    generalize Wl.letS s.data.toList [] = S at *
    generalize Ut.decE t.data.toList = E at *
    have i15 : ¬ (15 : Int) < (S.length : Int) := by omega
    clear hl hl2 h0 htk hfa hfb a1 a2 a3 b1 b2 s1 s2 hmk hsz hwh helen hdc hF hFl oA oB oD hT
    go_enter Tryz.func5, Tryz.ntmps5
    go_wp2_with fail
    refine HL.out.mono ?_
    rintro e w1 ⟨v1, rfl, ho1, hb1⟩
    obtain ⟨av1, cv1, rfl, _⟩ := ownI_cells ho1
    have HI1 := Lib.hid (ho1.ints (by omega))
    have HB1 := Lib.hid hb1
    clear ho1 hb1
    go_wp2_with fail
    refine (HAW.out w1 HB1.out).mono ?_
    rintro e w2 ⟨rfl, hb2⟩
    have HI2 := Lib.hid (HI1.out.below hb2 (Nat.le_refl _))
    have HB2 : Hid (Below w.heap.size w w2) := HB1.out.trans (hb2.mono HB1.out.size)
    clear hb2 HI1
    go_wp2_with fail
    refine (HWA.out w2 HB2.out).mono ?_
    rintro e w3 ⟨v3, rfl, hs3, hb3⟩
    have HV3 : Hid (∀ W, Below w3.heap.size w3 W → StS (fun _ => True) W v3 dA) := fun W hb => (hs3.sts.below hb).wide fun _ _ _ => trivial
    have HI3 := Lib.hid (HI2.out.below hb3 (Nat.le_refl _))
    have HB3 : Hid (Below w.heap.size w w3) := HB2.out.trans (hb3.mono HB2.out.size)
    clear hs3 hb3 HI2
    go_wp2_with fail
    refine (HWB.out w3 HB3.out).mono ?_
    rintro e w4 ⟨v4, rfl, hs4, hb4⟩
    have HV34 : Hid (∀ W, Below w4.heap.size w4 W → StS (fun _ => True) W v3 dA) := fun W hb => HV3.out W (hb4.trans (hb.mono hb4.size))
    have HV4 : Hid (∀ W, Below w4.heap.size w4 W → StS (fun _ => True) W v4 dB) := fun W hb => (hs4.sts.below hb).wide fun _ _ _ => trivial
    have HI4 := Lib.hid (HI3.out.below hb4 (Nat.le_refl _))
    have HB4 : Hid (Below w.heap.size w w4) := HB3.out.trans (hb4.mono HB3.out.size)
    clear hs4 hb4 HI3 HV3
    go_wp2_with fail
    refine (HPC.out w4 HB4.out).mono ?_
    rintro e w5 ⟨v5, rfl, hs5, hb5⟩
    have HV35 : Hid (∀ W, Below w5.heap.size w5 W → StS (fun _ => True) W v3 dA) := fun W hb => HV34.out W (hb5.trans (hb.mono hb5.size))
    have HV45 : Hid (∀ W, Below w5.heap.size w5 W → StS (fun _ => True) W v4 dB) := fun W hb => HV4.out W (hb5.trans (hb.mono hb5.size))
    have HV5 : Hid (∀ W, Below w5.heap.size w5 W → StS (fun _ => True) W v5 dB) := fun W hb => (hs5.sts.below hb).wide fun _ _ _ => trivial
    have HI5 := Lib.hid (HI4.out.below hb5 (Nat.le_refl _))
    have HB5 : Hid (Below w.heap.size w w5) := HB4.out.trans (hb5.mono HB4.out.size)
    clear hs5 hb5 HI4 HV34 HV4
    go_wp2_with fail
    refine (HWD.out w5 HB5.out).mono ?_
    rintro e w6 ⟨v6, rfl, hs6, hb6⟩
    have HV36 : Hid (∀ W, Below w6.heap.size w6 W → StS (fun _ => True) W v3 dA) := fun W hb => HV35.out W (hb6.trans (hb.mono hb6.size))
    have HV46 : Hid (∀ W, Below w6.heap.size w6 W → StS (fun _ => True) W v4 dB) := fun W hb => HV45.out W (hb6.trans (hb.mono hb6.size))
    have HV56 : Hid (∀ W, Below w6.heap.size w6 W → StS (fun _ => True) W v5 dB) := fun W hb => HV5.out W (hb6.trans (hb.mono hb6.size))
    have HV6 : Hid (∀ W, Below w6.heap.size w6 W → StS (fun _ => True) W v6 dD) := fun W hb => (hs6.sts.below hb).wide fun _ _ _ => trivial
    have HI6 := Lib.hid (HI5.out.below hb6 (Nat.le_refl _))
    have HB6 : Hid (Below w.heap.size w w6) := HB5.out.trans (hb6.mono HB5.out.size)
    have HN6 := Lib.hid (HEN.out w6 _ HI6.out)
    clear hs6 hb6 HI5 HV35 HV45 HV5
    go_wp2_with fail
    refine HN6.out.mono ?_
    rintro e w7 ⟨rfl, hb7⟩
    have HB67 : Hid (Below w6.heap.size w6 w7) := hb7
    clear hb7
    go_wp2_with fail
    refine (HDC.out w7).mono ?_
    rintro e w8 ⟨v8, rfl, _, hb8⟩
    have HB68 : Hid (Below w6.heap.size w6 w8) := HB67.out.trans (hb8.mono HB67.out.size)
    have HA8 := Lib.hid (HFA.out w8 v3 (HV36.out w8 HB68.out))
    clear hb8
    go_wp2_with fail
    refine HA8.out.mono ?_
    rintro e w9 ⟨rfl, hb9⟩
    have HB69 : Hid (Below w6.heap.size w6 w9) := HB68.out.trans (hb9.mono HB68.out.size)
    have HA9 := Lib.hid (HFB.out w9 v5 (HV56.out w9 HB69.out))
    clear hb9 HA8
    go_wp2_with fail
    refine HA9.out.mono ?_
    rintro e w10 ⟨rfl, hb10⟩
    have HB610 : Hid (Below w6.heap.size w6 w10) := HB69.out.trans (hb10.mono HB69.out.size)
    clear hb10 HA9
    have HEND : Hid (∀ W, Below w6.heap.size w6 W → Below w.heap.size w W) := fun W hb => HB6.out.trans (hb.mono HB6.out.size)
    by_cases hE : E = 0
    · obtain ⟨p1, p2, hp1, g1, g2, g3⟩ := HTA.out hE
      subst hE
      have HG1 := Lib.hid g1
      have HG2 := Lib.hid g2
      have HG3 := Lib.hid g3
      have HX := Lib.hid (HG1.out w10 v3 (HV36.out w10 HB610.out))
      have x1 : (p1 == p1) = true := by cases p1 <;> rfl
      have x2 : (p2 == p2) = true := by cases p2 <;> rfl
      clear g1 g2 g3 HTA
      go_wp2_with fail
      refine HX.out.mono ?_
      rintro e w11 ⟨rfl, hb11⟩
      have HB611 : Hid (Below w6.heap.size w6 w11) := HB610.out.trans (hb11.mono HB610.out.size)
      have HX2 := Lib.hid (HG2.out w11 v4 (HV46.out w11 HB611.out))
      clear hb11 HX
      go_wp2_with fail
      refine HX2.out.mono ?_
      rintro e w12 ⟨rfl, hb12⟩
      have HB612 : Hid (Below w6.heap.size w6 w12) := HB611.out.trans (hb12.mono HB611.out.size)
      have HX3 := Lib.hid (HG2.out w12 v5 (HV56.out w12 HB612.out))
      clear hb12 HX2
      go_wp2_with fail
      refine HX3.out.mono ?_
      rintro e w13 ⟨rfl, hb13⟩
      have HB613 : Hid (Below w6.heap.size w6 w13) := HB612.out.trans (hb13.mono HB612.out.size)
      have HX4 := Lib.hid (HG3.out w13 v6 (HV6.out w13 HB613.out))
      clear hb13 HX3
      go_wp2_with fail
      refine HX4.out.mono ?_
      rintro e w14 ⟨rfl, hb14⟩
      have HB614 : Hid (Below w6.heap.size w6 w14) := HB613.out.trans (hb14.mono HB613.out.size)
      clear hb14 HX4
      go_wp2_with fail
      go_ret
      exact ⟨rfl, HEND.out _ HB614.out⟩
    · have he : (E != 0) = true := by simpa using hE
      go_wp2_with fail
      go_ret
      exact ⟨rfl, HEND.out _ HB610.out⟩
  · generalize Wl.letE s.data.toList [] = E at *
    generalize Wl.letS s.data.toList [] = S at *
    have HL := Lib.hid hl2
    clear hl hl2 hT
    by_cases hE : E = 0
    · have i15 : (15 : Int) < (S.length : Int) := by
        have : ¬ S.length ≤ 15 := fun h => h0 ⟨hE, h⟩
        omega
      subst hE
      clear h0
      go_enter Tryz.func5, Tryz.ntmps5
      go_wp2_with fail
      refine HL.out.mono ?_
      rintro e w1 ⟨v1, rfl, ho1, hb1⟩
      obtain ⟨av1, cv1, rfl, _⟩ := ownI_cells ho1
      have HB1 := Lib.hid hb1
      clear ho1 hb1
      go_wp2_with fail
      refine (HAW.out w1 HB1.out).mono ?_
      rintro e w2 ⟨rfl, hb2⟩
      have HB2 : Hid (Below w.heap.size w w2) := HB1.out.trans (hb2.mono HB1.out.size)
      clear hb2
      go_wp2_with fail
      refine (HAW.out w2 HB2.out).mono ?_
      rintro e w3 ⟨rfl, hb3⟩
      have HB3 : Hid (Below w.heap.size w w3) := HB2.out.trans (hb3.mono HB2.out.size)
      clear hb3
      go_wp2_with fail
      go_ret
      exact ⟨rfl, HB3.out⟩
    · have he : (E != 0) = true := by simpa using hE
      clear h0
      go_enter Tryz.func5, Tryz.ntmps5
      go_wp2_with fail
      refine HL.out.mono ?_
      rintro e w1 ⟨v1, rfl, ho1, hb1⟩
      have HB1 := Lib.hid hb1
      clear ho1 hb1
      go_wp2_with fail
      refine (HAW.out w1 HB1.out).mono ?_
      rintro e w2 ⟨rfl, hb2⟩
      have HB2 : Hid (Below w.heap.size w w2) := HB1.out.trans (hb2.mono HB1.out.size)
      clear hb2
      go_wp2_with fail
      refine (HAW.out w2 HB2.out).mono ?_
      rintro e w3 ⟨rfl, hb3⟩
      have HB3 : Hid (Below w.heap.size w w3) := HB2.out.trans (hb3.mono HB2.out.size)
      clear hb3
      go_wp2_with fail
      go_ret
      exact ⟨rfl, HB3.out⟩
end Go.Proofs.YtmhchajdeneabaaGreatDoor

/-
  What the cards' frames share: arguments opened, their bulk, the witness's world, the library's listed tables.
-/
namespace Go.Proofs.YtmhchajdeneabaaGreatDoor.frame5
open Go.ChangeShapes Go.WideShapes Go.ChangeAt Go.RowKit Go.Lib
open Go.ChangeMaps (open_string shut_string)

theorem own : ownKnob Tryz.prog.godebug = none := by kernel_rfl
theorem string_bulk {H : Type} (s : ByteArray) : Rows.uptoBulk (DataW.lit (H := H) (.string s.data.toList)) = s.size + 1 := by
  simp [Rows.uptoBulk]
theorem bound {H : Type} {l : List (DataW H)} (hk : Rows.uptoSmall H l = true) : Rows.uptoBulkAll l ≤ 1048576 := of_decide_eq_true hk

/-- A block's cells in the place of what it holds. -/
def cellsIn (cs : Array Value) : Obj → Obj
  | .cells _ t frozen => .cells cs t frozen
  | o => o
/-- The world of a witness: the listed variables hold what their text lays. -/
noncomputable def laidWorld (os : Os) : World :=
  { World.holding Tryz.prog os ⟨#[], #[], []⟩ with heap := ((World.holding Tryz.prog os ⟨#[], #[], []⟩).heap.modify 0 (cellsIn (Go.Pinned.utf8FirstZ.map fun (n : Nat) => Value.int .u8 (n : Int)).toArray)).modify 1 (cellsIn (#[128, 191, 160, 191, 128, 159, 144, 191, 128, 143, 0, 0, 0, 0, 0, 0, 0, 0, 0, 0, 0, 0, 0, 0, 0, 0, 0, 0, 0, 0, 0, 0].map fun (n : Int) => Value.int .u8 n)) }
/-- What the rows list. -/
def listed : List (String × DataW Unit) := [("unicode/utf8.acceptRanges", Rows.laid_unicode_utf8_acceptRanges), ("unicode/utf8.first", Rows.laid_unicode_utf8_first)]
theorem accept_eq : Rows.laid_unicode_utf8_acceptRanges (H := Unit) = acceptData := by kernel_rfl
theorem first_eq : Rows.laid_unicode_utf8_first = firstData := Pinned.utf8First_eq
theorem tabs_of {W : World} (hL : laidMet Tryz.prog listed W) : Tabs W := by
  unfold listed at hL
  rw [accept_eq, first_eq] at hL
  exact utf8Tabs_of_readsT (U8Types.of196 Tryz.lays196) ⟨by kernel_rfl, by kernel_rfl, by kernel_rfl, by kernel_rfl, by kernel_rfl, by kernel_rfl, by kernel_rfl⟩ (Lib.laidMet.reads hL (.tail _ (.head _))) (Lib.laidMet.reads hL (.head _))
end Go.Proofs.YtmhchajdeneabaaGreatDoor.frame5

/-
  What the frames share: slices of states, of loose states, of texts that came in; their bulk.
-/
namespace Go.Proofs.YtmhchajdeneabaaGreatDoor.frame
open Go.ChangeShapes Go.WideShapes Go.ChangeAt Go.RowKit
open Go.ChangeMaps (open_string shut_string)

instance : Inhabited Au.Arc := ⟨⟨0, 0, 0⟩⟩
instance : Inhabited Au.St := ⟨⟨false, []⟩⟩
instance : Inhabited Au.Lo := ⟨⟨false, [], []⟩⟩
theorem slice_elems {H : Type} (elems spare : List (DataW H)) : Rows.uptoBulkAll elems + 1 ≤ Rows.uptoBulk (.slice elems spare) := by
  simp only [Rows.uptoBulk]
  omega
theorem string_bulk {H : Type} (s : ByteArray) : Rows.uptoBulk (DataW.lit (H := H) (.string s.data.toList)) = s.size + 1 := by
  simp [Rows.uptoBulk]
section
variable {H : Type} {enc : TypeId × Value → H} {W : World}
theorem addr_of {x : Addr} {i : Nat} {v : Value} (hi : i = 0) (h : W.cell? (x.add i) = some v) : ∃ b o, x = ⟨b, o, none⟩ ∧ b < W.heap.size ∧ ∀ j, x.add j = ⟨b, o + j, none⟩ := by
  obtain ⟨b, off, spot⟩ := x
  have hspot : spot = none := by
    have h1 := World.cell?_spot h
    subst hi
    simpa [Addr.add] using h1
  subst hspot
  have hadd : ∀ j, (⟨b, off, none⟩ : Addr).add j = ⟨b, off + j, none⟩ := fun j => by
    unfold Addr.add
    split <;> simp_all
  rw [hadd] at h
  exact ⟨b, off, rfl, World.block_lt_of_cell? W _ h, hadd⟩
end
end Go.Proofs.YtmhchajdeneabaaGreatDoor.frame

/-
  What the frames share: slices of texts that came in.
-/
namespace Go.Proofs.YtmhchajdeneabaaGreatDoor.frame
open Go.ChangeShapes Go.WideShapes Go.ChangeAt Go.RowKit
open Go.ChangeMaps (open_string shut_string)
theorem strs_of {H : Type} {enc : TypeId × Value → H} {W : World} {t e : TypeId} {a : Option Addr} {len cap : Nat} {d : DataW H} {p : List MemPlace} (ht : Tryz.prog.underlying t = some (.slice e)) (he : Tryz.prog.underlying e = some .string) (hc : Tryz.prog.cellsOf e = 1)
    (h : DataW.Trod enc Tryz.prog W 0 (fun _ => true) true t (.slice a len cap) d p) : ∃ ss, TxtS W a len ss ∧ (∀ s ∈ ss, s.size ≤ Rows.uptoBulk d) ∧ len ≤ 9223372036854775807 := by
  obtain ⟨fuel, hf⟩ := h
  rcases open_strings ht he hc hf with ⟨hcs, hx⟩ | ⟨x, l, c, ss, hcs, _, hl, hm, hz, hx, hcell, hws⟩
  · simp [Value.cells] at hcs
    obtain ⟨rfl, rfl, rfl⟩ := hcs
    exact ⟨[], ⟨rfl, fun h => absurd h (by omega)⟩, fun s hs => (by cases hs), by omega⟩
  · simp [Value.cells] at hcs
    obtain ⟨rfl, rfl, rfl⟩ := hcs
    simp only [if_true] at hz
    have hd : d = .slice (strs (ss.take len)) (strs (ss.drop len)) := congrArg Prod.fst hx
    refine ⟨ss.take len, ⟨by rw [List.length_take]; omega, fun h0 => ?_⟩, fun s hs => ?_, by unfold maxLen at hm; omega⟩
    · obtain ⟨b, o, rfl, hb, hadd⟩ := addr_of rfl (hcell 0 (by omega))
      refine ⟨b, o, rfl, hb, fun i hi => ?_⟩
      have hi1 : i < len := by rw [List.length_take] at hi; omega
      have hi' : i < ss.length := by omega
      have := hcell i hi'
      rw [hadd] at this
      rw [this, List.getElem_take]
      simp [List.getD, hi']
    · have hmem : (DataW.lit (H := H) (.string s.data.toList)) ∈ strs (H := H) (ss.take len) := by
        unfold strs
        exact List.mem_map.2 ⟨_, hs, rfl⟩
      have h1 : Rows.uptoBulk (DataW.lit (H := H) (.string s.data.toList)) ≤ Rows.uptoBulkAll (strs (H := H) (ss.take len)) := by
        generalize strs (H := H) (ss.take len) = L at hmem
        induction L with
        | nil => cases hmem
        | cons y t ih =>
          simp only [Rows.uptoBulkAll]
          rcases List.mem_cons.1 hmem with rfl | hm
          · omega
          · have := ih hm; omega
      have h2 := slice_elems (strs (H := H) (ss.take len)) (strs (H := H) (ss.drop len))
      rw [string_bulk] at h1
      rw [hd]
      omega
end Go.Proofs.YtmhchajdeneabaaGreatDoor.frame
