/-
  Postings plainly: what may be, what they are packed as, what is read.
-/
import Derived.Test.YtokdjaljeckghaaDel
namespace Go.Proofs.Ytokdjaljeckghaa
open Go.RowKit
theorem wrap_fro (a x : Int) (hx : -9223372036854775808 ≤ x ∧ x ≤ 9223372036854775807) : wrap64 (wrap64 (a + x) - a) = x := by
  unfold wrap64
  omega
/-- Deltas of Sums are the list. -/
theorem dl_sm (zs : List Int) : ∀ a, Wf zs → dl a (sm a zs) = zs := by
  induction zs with
  | nil => intro a _; rfl
  | cons x t ih =>
    intro a h
    simp only [dl, sm]
    rw [wrap_fro a x (h x (List.mem_cons_self ..)), ih _ (fun z hz => h z (List.mem_cons_of_mem _ hz))]
theorem sm_wf (zs : List Int) : ∀ a, Wf (sm a zs) := by
  induction zs with
  | nil => intro a z h; cases h
  | cons x t ih =>
    intro a z h
    rcases List.mem_cons.1 h with rfl | h
    · unfold wrap64; omega
    · exact ih _ z h
namespace Pt
/-- A posting: a document, and the places there. -/
structure Po where
  doc : Int
  ats : List Int
  deriving DecidableEq
/-- The first fault of places, behind one. -/
def chkA : Int → List Int → Int
  | _, [] => 0
  | p, x :: r => if x < 0 ∨ x ≤ p then 3 else if 4096 ≤ x then 4 else chkA x r
/-- The first fault of postings, behind a document. -/
def chk : Int → List Po → Int
  | _, [] => 0
  | d, p :: r => if 1048576 ≤ p.doc then 4 else if p.doc < 0 ∨ p.doc ≤ d ∨ p.ats = [] then 3 else if chkA (-1) p.ats = 0 then chk p.doc r else chkA (-1) p.ats
/-- Numbers that go up, from behind one on. -/
def Up : Int → List Int → Prop
  | _, [] => True
  | p, x :: r => p < x ∧ Up x r
theorem chkA_mem {p : Int} {l : List Int} (h : chkA p l = 0) : ∀ x ∈ l, 0 ≤ x ∧ x < 4096 := by
  induction l generalizing p with
  | nil => intro x hx; cases hx
  | cons y r ih =>
    unfold chkA at h
    split at h
    · cases h
    · split at h
      · cases h
      · intro x hx
        rcases List.mem_cons.1 hx with rfl | hx
        · omega
        · exact ih h x hx
theorem chkA_up {p : Int} {l : List Int} (h : chkA p l = 0) : Up p l := by
  induction l generalizing p with
  | nil => trivial
  | cons y r ih =>
    unfold chkA at h
    split at h
    · cases h
    · split at h
      · cases h
      · exact ⟨by omega, ih h⟩
theorem chkA_or (p : Int) (l : List Int) : chkA p l = 0 ∨ chkA p l = 3 ∨ chkA p l = 4 := by
  induction l generalizing p with
  | nil => exact .inl rfl
  | cons y r ih =>
    unfold chkA
    split
    · exact .inr (.inl rfl)
    · split
      · exact .inr (.inr rfl)
      · exact ih y
theorem chk_or (d : Int) (l : List Po) : chk d l = 0 ∨ chk d l = 3 ∨ chk d l = 4 := by
  induction l generalizing d with
  | nil => exact .inl rfl
  | cons p r ih =>
    unfold chk
    split
    · exact .inr (.inr rfl)
    · split
      · exact .inr (.inl rfl)
      · split
        · exact ih p.doc
        · exact chkA_or _ _
theorem chk_cons {d : Int} {p : Po} {r : List Po} (h : chk d (p :: r) = 0) : 0 ≤ p.doc ∧ p.doc < 1048576 ∧ d < p.doc ∧ p.ats ≠ [] ∧ chkA (-1) p.ats = 0 ∧ chk p.doc r = 0 := by
  unfold chk at h
  split at h
  · cases h
  · split at h
    · cases h
    · split at h
      · exact ⟨by omega, by omega, by omega, fun e => by rename_i h2 _; exact h2 (.inr (.inr e)), by assumption, h⟩
      · exact absurd h (by assumption)
theorem chk_mem {d : Int} {l : List Po} (h : chk d l = 0) : ∀ p ∈ l, 0 ≤ p.doc ∧ p.doc < 1048576 ∧ p.ats ≠ [] ∧ chkA (-1) p.ats = 0 := by
  induction l generalizing d with
  | nil => intro p hp; cases hp
  | cons q r ih =>
    obtain ⟨h1, h2, _, h4, h5, h6⟩ := chk_cons h
    intro p hp
    rcases List.mem_cons.1 hp with rfl | hp
    · exact ⟨h1, h2, h4, h5⟩
    · exact ih h6 p hp
theorem chk_up {d : Int} {l : List Po} (h : chk d l = 0) : Up d (l.map Po.doc) := by
  induction l generalizing d with
  | nil => trivial
  | cons q r ih =>
    obtain ⟨_, _, h3, _, _, h6⟩ := chk_cons h
    exact ⟨h3, ih h6⟩
/-- The differences of numbers that go up are from 0 on. -/
theorem dl_up {a : Int} : ∀ {l : List Int} {p : Int}, a ≤ p + 1 → -9223372036854775808 < a → a < 9223372036854775808 → Up p l → (∀ x ∈ l, 0 ≤ x ∧ x < 1048576) → 0 ≤ a → ∀ z ∈ dl a l, 0 ≤ z ∧ z < 1048576
  | [], _, _, _, _, _, _, _ => fun z h => by cases h
  | x :: r, p, h1, h2, h3, hu, hb, h0 => fun z hz => by
    have hx := hb x (List.mem_cons_self ..)
    have hp : p < x := hu.1
    rcases List.mem_cons.1 hz with rfl | hz
    · rw [show wrap64 (x - a) = x - a from by unfold wrap64; omega]
      omega
    · exact dl_up (a := x) (p := x) (by omega) (by omega) (by omega) hu.2 (fun y hy => hb y (List.mem_cons_of_mem _ hy)) hx.1 z hz
theorem back_nat {l : List Int} (h : ∀ z ∈ l, 0 ≤ z) : (l.map Int.toNat).map Int.ofNat = l := by
  rw [List.map_map]
  conv => rhs; rw [← List.map_id l]
  exact List.map_congr_left fun z hz => Int.toNat_of_nonneg (h z hz)
theorem fro_nat (l : List Nat) : (l.map Int.ofNat).map Int.toNat = l := by
  rw [List.map_map]
  conv => rhs; rw [← List.map_id l]
  exact List.map_congr_left fun _ _ => rfl
/-- The three lists of postings. -/
def docs (l : List Po) : List Int := dl 0 (l.map Po.doc)
def cnts (l : List Po) : List Nat := l.map fun p => p.ats.length
def plcs (l : List Po) : List Int := l.flatMap fun p => dl 0 p.ats
/-- What postings are packed as. -/
def bytes (l : List Po) : List UInt8 := Bp.packB ((docs l).map Int.toNat) ++ (Bp.packB (cnts l) ++ Bp.packB ((plcs l).map Int.toNat))
def pack (l : List Po) : List UInt8 × Int := if chk (-1) l = 0 then (bytes l, 0) else ([], chk (-1) l)
/-- The places of each posting, of how many each has and of all differences. -/
def cut : List Nat → List Int → Option (List (List Int))
  | [], c => if c = [] then some [] else none
  | m :: b, c => if c.length < m then none else (cut b (c.drop m)).map fun t => sm 0 (c.take m) :: t
def mk (a b : List Nat) (c : List Nat) : List Po × Int :=
  if a.length ≠ b.length then ([], 3) else match cut b (c.map Int.ofNat) with
  | none => ([], 3)
  | some t => if chk (-1) (List.zipWith Po.mk (sm 0 (a.map Int.ofNat)) t) = 0 then (List.zipWith Po.mk (sm 0 (a.map Int.ofNat)) t, 0) else ([], 3)
/-- What bytes are read as. -/
def read (s : List UInt8) : List Po × Int :=
  if (Bp.rdPack s).2.2 ≠ 0 then ([], (Bp.rdPack s).2.2) else
  if (Bp.rdPack (s.drop (Bp.rdPack s).2.1)).2.2 ≠ 0 then ([], (Bp.rdPack (s.drop (Bp.rdPack s).2.1)).2.2) else
  if (Bp.rdPack (s.drop ((Bp.rdPack s).2.1 + (Bp.rdPack (s.drop (Bp.rdPack s).2.1)).2.1))).2.2 ≠ 0 then ([], (Bp.rdPack (s.drop ((Bp.rdPack s).2.1 + (Bp.rdPack (s.drop (Bp.rdPack s).2.1)).2.1))).2.2) else
  if (Bp.rdPack s).2.1 + (Bp.rdPack (s.drop (Bp.rdPack s).2.1)).2.1 + (Bp.rdPack (s.drop ((Bp.rdPack s).2.1 + (Bp.rdPack (s.drop (Bp.rdPack s).2.1)).2.1))).2.1 < s.length then ([], 5) else
  mk (Bp.rdPack s).1 (Bp.rdPack (s.drop (Bp.rdPack s).2.1)).1 (Bp.rdPack (s.drop ((Bp.rdPack s).2.1 + (Bp.rdPack (s.drop (Bp.rdPack s).2.1)).2.1))).1
theorem cut_back : ∀ (l : List Po), (∀ p ∈ l, Wf p.ats) → cut (cnts l) (plcs l) = some (l.map Po.ats)
  | [], _ => rfl
  | p :: r, h => by
    have ih := cut_back r fun q hq => h q (List.mem_cons_of_mem _ hq)
    show (if (plcs (p :: r)).length < p.ats.length then none else (cut (cnts r) ((plcs (p :: r)).drop p.ats.length)).map fun t => sm 0 ((plcs (p :: r)).take p.ats.length) :: t) = _
    have e : plcs (p :: r) = dl 0 p.ats ++ plcs r := rfl
    have hl := dl_length p.ats 0
    rw [e, if_neg (by rw [List.length_append]; omega), List.drop_left' hl, List.take_left' hl, ih, sm_dl _ _ (h p (List.mem_cons_self ..))]
    rfl
theorem cut_one : ∀ {b : List Nat} {c : List Int} {t : List (List Int)}, Wf c → cut b c = some t → b = t.map List.length ∧ c = t.flatMap (dl 0) ∧ ∀ x ∈ t, Wf x
  | [], c, t, _, h => by
    unfold cut at h
    split at h
    · cases h
      exact ⟨rfl, by assumption, fun x hx => by cases hx⟩
    · cases h
  | m :: b, c, t, hw, h => by
    unfold cut at h
    split at h
    · cases h
    · obtain ⟨t', h1, rfl⟩ := Option.map_eq_some_iff.1 h
      obtain ⟨i1, i2, i3⟩ := cut_one (fun z hz => hw z (List.mem_of_mem_drop hz)) h1
      refine ⟨?_, ?_, ?_⟩
      · rw [List.map_cons, sm_length, List.length_take, ← i1, Nat.min_eq_left (by omega)]
      · rw [List.flatMap_cons, dl_sm _ _ (fun z hz => hw z (List.mem_of_mem_take hz)), ← i2, List.take_append_drop]
      · intro x hx
        rcases List.mem_cons.1 hx with rfl | hx
        · exact sm_wf _ _
        · exact i3 x hx
theorem wf_of {l : List Int} (h : ∀ x ∈ l, 0 ≤ x ∧ x < 1048576) : Wf l := fun x hx => by
  have := h x hx
  omega
theorem zip_self : ∀ l : List Po, List.zipWith Po.mk (l.map Po.doc) (l.map Po.ats) = l
  | [] => rfl
  | p :: r => by
    show (⟨p.doc, p.ats⟩ : Po) :: _ = _
    rw [zip_self r]
theorem zip_doc : ∀ {a : List Int} {t : List (List Int)}, a.length = t.length → (List.zipWith Po.mk a t).map Po.doc = a ∧ (List.zipWith Po.mk a t).map Po.ats = t
  | [], [], _ => ⟨rfl, rfl⟩
  | [], _ :: _, h => by cases h
  | _ :: _, [], h => by cases h
  | x :: a, y :: t, h => by
    obtain ⟨h1, h2⟩ := zip_doc (a := a) (t := t) (by simpa using h)
    exact ⟨by rw [List.zipWith_cons_cons, List.map_cons, h1], by rw [List.zipWith_cons_cons, List.map_cons, h2]⟩
/-- The numbers of the three lists are small, and from 0 on. -/
theorem docs_ok {l : List Po} (h : chk (-1) l = 0) : ∀ z ∈ docs l, 0 ≤ z ∧ z < 1048576 :=
  dl_up (p := -1) (by omega) (by omega) (by omega) (chk_up h) (fun x hx => by
    obtain ⟨p, hp, rfl⟩ := List.mem_map.1 hx
    have := chk_mem h p hp
    omega) (by omega)
theorem plcs_ok {l : List Po} (h : chk (-1) l = 0) : ∀ z ∈ plcs l, 0 ≤ z ∧ z < 1048576 := fun z hz => by
  obtain ⟨p, hp, h1⟩ := List.mem_flatMap.1 hz
  have h2 := (chk_mem h p hp).2.2.2
  exact dl_up (p := -1) (by omega) (by omega) (by omega) (chkA_up h2) (fun x hx => by have := chkA_mem h2 x hx; omega) (by omega) z h1
theorem ats_wf {l : List Po} (h : chk (-1) l = 0) : ∀ p ∈ l, Wf p.ats := fun p hp =>
  wf_of fun x hx => by
    have := chkA_mem (chk_mem h p hp).2.2.2 x hx
    omega
theorem mk_back {l : List Po} (h : chk (-1) l = 0) : mk ((docs l).map Int.toNat) (cnts l) ((plcs l).map Int.toNat) = (l, 0) := by
  have hd := docs_ok h
  have hp := plcs_ok h
  have hw : Wf (l.map Po.doc) := fun x hx => by
    obtain ⟨p, hp, rfl⟩ := List.mem_map.1 hx
    have := chk_mem h p hp
    omega
  unfold mk
  rw [if_neg (by rw [List.length_map]; unfold docs cnts; rw [dl_length, List.length_map, List.length_map]; simp), back_nat fun z hz => (hp z hz).1, back_nat fun z hz => (hd z hz).1, cut_back l (ats_wf h)]
  dsimp only
  unfold docs
  rw [sm_dl _ _ hw, zip_self, if_pos h]
theorem mk_one {a b c : List Nat} {l : List Po} (ha : ∀ x ∈ a, x < 9223372036854775808) (hc : ∀ x ∈ c, x < 9223372036854775808) (h : mk a b c = (l, 0)) : chk (-1) l = 0 ∧ (docs l).map Int.toNat = a ∧ cnts l = b ∧ (plcs l).map Int.toNat = c := by
  have wf : ∀ {x : List Nat}, (∀ y ∈ x, y < 9223372036854775808) → Wf (x.map Int.ofNat) := fun hx z hz => by
    obtain ⟨y, hy, rfl⟩ := List.mem_map.1 hz
    have := hx y hy
    show _ ≤ (y : Int) ∧ (y : Int) ≤ _
    omega
  unfold mk at h
  split at h
  · cases h
  · cases ht : cut b (c.map Int.ofNat) with
    | none => rw [ht] at h; cases h
    | some t =>
      rw [ht] at h
      dsimp only at h
      split at h
      · obtain ⟨rfl, _⟩ := Prod.mk.inj h
        obtain ⟨i1, i2, _⟩ := cut_one (wf hc) ht
        have hl : (sm 0 (a.map Int.ofNat)).length = t.length := by
          have := congrArg List.length i1
          rw [List.length_map] at this
          rw [sm_length, List.length_map]
          omega
        obtain ⟨z1, z2⟩ := zip_doc hl
        refine ⟨by assumption, ?_, ?_, ?_⟩
        · unfold docs
          rw [z1, dl_sm _ _ (wf ha), fro_nat]
        · have e : cnts (List.zipWith Po.mk (sm 0 (a.map Int.ofNat)) t) = ((List.zipWith Po.mk (sm 0 (a.map Int.ofNat)) t).map Po.ats).map List.length := by
            unfold cnts
            rw [List.map_map]
            rfl
          rw [e, z2, i1]
        · have e : plcs (List.zipWith Po.mk (sm 0 (a.map Int.ofNat)) t) = t.flatMap (dl 0) := by
            conv => rhs; rw [← z2]
            rw [List.flatMap_map]
            rfl
          rw [e, ← i2, fro_nat]
      · cases h
theorem mk_err {a b c : List Nat} {l : List Po} {e : Int} (h : mk a b c = (l, e)) : (e = 0 ∨ e = 3) ∧ (e ≠ 0 → l = []) := by
  unfold mk at h
  split at h
  · cases h
    exact ⟨.inr rfl, fun _ => rfl⟩
  · split at h
    · cases h
      exact ⟨.inr rfl, fun _ => rfl⟩
    · split at h
      · cases h
        exact ⟨.inl rfl, fun h => absurd rfl h⟩
      · cases h
        exact ⟨.inr rfl, fun _ => rfl⟩
/-- What was packed is read back; with bytes behind it some are left. -/
theorem read_back {l : List Po} (h : chk (-1) l = 0) (h1 : l.length ≤ 9223372036854775807) (h2 : (plcs l).length ≤ 9223372036854775807) (hc : ∀ p ∈ l, p.ats.length < 9223372036854775808) (r : List UInt8) : read (bytes l ++ r) = if r = [] then (l, 0) else ([], 5) := by
  have q1 : ∀ x ∈ (docs l).map Int.toNat, x < 9223372036854775808 := fun x hx => by
    obtain ⟨z, hz, rfl⟩ := List.mem_map.1 hx
    have := docs_ok h z hz
    omega
  have q2 : ∀ x ∈ cnts l, x < 9223372036854775808 := fun x hx => by
    obtain ⟨p, hp, rfl⟩ := List.mem_map.1 hx
    exact hc p hp
  have q3 : ∀ x ∈ (plcs l).map Int.toNat, x < 9223372036854775808 := fun x hx => by
    obtain ⟨z, hz, rfl⟩ := List.mem_map.1 hx
    have := plcs_ok h z hz
    omega
  have n1 : ((docs l).map Int.toNat).length ≤ 9223372036854775807 := by unfold docs; rw [List.length_map, dl_length, List.length_map]; exact h1
  have n2 : (cnts l).length ≤ 9223372036854775807 := by unfold cnts; rw [List.length_map]; exact h1
  have n3 : ((plcs l).map Int.toNat).length ≤ 9223372036854775807 := by rw [List.length_map]; exact h2
  have e0 : bytes l ++ r = Bp.packB ((docs l).map Int.toNat) ++ (Bp.packB (cnts l) ++ (Bp.packB ((plcs l).map Int.toNat) ++ r)) := by unfold bytes; simp only [List.append_assoc]
  have r1 := Bp.pack_back _ (Bp.packB (cnts l) ++ (Bp.packB ((plcs l).map Int.toNat) ++ r)) n1 q1
  have r2 := Bp.pack_back _ (Bp.packB ((plcs l).map Int.toNat) ++ r) n2 q2
  have r3 := Bp.pack_back _ r n3 q3
  have hm := mk_back h
  unfold read
  rw [e0, r1]
  dsimp only
  rw [if_neg (by simp), List.drop_left' rfl, r2]
  dsimp only
  rw [if_neg (by simp), ← List.drop_drop, List.drop_left' rfl, List.drop_left' rfl, r3]
  dsimp only
  rw [if_neg (by simp), hm]
  simp only [List.length_append]
  cases r with
  | nil => rw [if_neg (by simp; omega), if_pos rfl]
  | cons x t => rw [if_pos (by simp only [List.length_cons]; omega), if_neg (by simp)]
/-- What is read is just what it is packed as. -/
theorem read_one {s : List UInt8} {l : List Po} (h : read s = (l, 0)) : chk (-1) l = 0 ∧ bytes l = s := by
  unfold read at h
  obtain ⟨a, n, e1, k1⟩ : ∃ a n e, Bp.rdPack s = (a, n, e) := ⟨_, _, _, rfl⟩
  obtain ⟨b, m, e2, k2⟩ : ∃ b m e, Bp.rdPack (s.drop n) = (b, m, e) := ⟨_, _, _, rfl⟩
  obtain ⟨c, k, e3, k3⟩ : ∃ c k e, Bp.rdPack (s.drop (n + m)) = (c, k, e) := ⟨_, _, _, rfl⟩
  simp only [k1, k2, k3] at h
  obtain ⟨_, _, o1⟩ := Bp.pack_one _ _ _ _ k1
  obtain ⟨_, _, o2⟩ := Bp.pack_one _ _ _ _ k2
  obtain ⟨_, _, o3⟩ := Bp.pack_one _ _ _ _ k3
  by_cases f1 : e1 = 0
  · rw [if_neg (by simpa using f1)] at h
    by_cases f2 : e2 = 0
    · rw [if_neg (by simpa using f2)] at h
      by_cases f3 : e3 = 0
      · rw [if_neg (by simpa using f3)] at h
        obtain ⟨p1, p2, p3, _⟩ := o1 f1
        obtain ⟨p4, _, p6, _⟩ := o2 f2
        obtain ⟨p7, p8, p9, _⟩ := o3 f3
        by_cases hz : n + m + k < s.length
        · rw [if_pos hz] at h
          cases h
        · rw [if_neg hz] at h
          obtain ⟨g1, g2, g3, g4⟩ := mk_one p2 p8 h
          refine ⟨g1, ?_⟩
          unfold bytes
          rw [g2, g3, g4, p3, p6, p9, ← List.drop_drop]
          rw [List.length_drop] at p4 p7
          rw [List.take_of_length_le (l := (s.drop n).drop m) (by rw [List.length_drop, List.length_drop]; omega), List.take_append_drop, List.take_append_drop]
      · rw [if_pos (by simpa using f3)] at h
        exact absurd (Prod.mk.inj h).2 f3
    · rw [if_pos (by simpa using f2)] at h
      exact absurd (Prod.mk.inj h).2 f2
  · rw [if_pos (by simpa using f1)] at h
    exact absurd (Prod.mk.inj h).2 f1
theorem read_err {s : List UInt8} {l : List Po} {e : Int} (h : read s = (l, e)) (he : e ≠ 0) : l = [] := by
  unfold read at h
  split at h
  · exact (Prod.mk.inj h).1.symm
  · split at h
    · exact (Prod.mk.inj h).1.symm
    · split at h
      · exact (Prod.mk.inj h).1.symm
      · split at h
        · exact (Prod.mk.inj h).1.symm
        · exact (mk_err h).2 he
/-- The place behind an Advance, from a place on. -/
def adv (l : List Po) (doc : Int) (k : Nat) : Nat := if h : k < l.length then if l[k].doc < doc then adv l doc (k + 1) else k else k
  termination_by l.length - k
theorem adv_spec (l : List Po) (d : Int) : ∀ (m k : Nat), l.length - k = m → k ≤ adv l d k ∧ (k ≤ l.length → adv l d k ≤ l.length) ∧ (∀ i (h : i < l.length), k ≤ i → i < adv l d k → l[i].doc < d) ∧ (∀ h : adv l d k < l.length, d ≤ l[adv l d k].doc) := by
  intro m
  induction m with
  | zero =>
    intro k hk
    have e : adv l d k = k := by unfold adv; rw [dif_neg (by omega)]
    rw [e]
    exact ⟨Nat.le_refl _, id, fun i _ h1 h2 => by omega, fun h => by omega⟩
  | succ m ih =>
    intro k hk
    have hlt : k < l.length := by omega
    by_cases hd : l[k].doc < d
    · have e : adv l d k = adv l d (k + 1) := by
        conv => lhs; unfold adv
        rw [dif_pos hlt, if_pos hd]
      obtain ⟨i1, i2, i3, i4⟩ := ih (k + 1) (by omega)
      refine ⟨by omega, fun _ => by have := i2 (by omega); omega, fun i hi h1 h2 => ?_, fun h => ?_⟩
      · by_cases hik : i = k
        · subst hik
          exact hd
        · exact i3 i hi (by omega) (by omega)
      · have h' : adv l d (k + 1) < l.length := by omega
        have := i4 h'
        simp only [e]
        exact this
    · have e : adv l d k = k := by unfold adv; rw [dif_pos hlt, if_neg hd]
      refine ⟨by omega, fun _ => by omega, fun i _ h1 h2 => by omega, fun h => ?_⟩
      simp only [e]
      omega
theorem adv_eq {l : List Po} {d : Int} {k j : Nat} (h1 : k ≤ j) (h2 : j ≤ l.length) (h3 : ∀ i (h : i < l.length), k ≤ i → i < j → l[i].doc < d) (h4 : ∀ h : j < l.length, d ≤ l[j].doc) : adv l d k = j := by
  obtain ⟨s1, s2, s3, s4⟩ := adv_spec l d _ k rfl
  have s2 := s2 (by omega)
  rcases Nat.lt_trichotomy (adv l d k) j with h | h | h
  · have a := s4 (by omega)
    have b := h3 (adv l d k) (by omega) s1 h
    omega
  · exact h
  · have a := s3 j (by omega) h1 h
    have b := h4 (by omega)
    omega
theorem up_lt : ∀ {l : List Int} {p : Int}, Up p l → (∀ i (h : i < l.length), p < l[i]) ∧ ∀ i j (hi : i < l.length) (hj : j < l.length), i < j → l[i] < l[j]
  | [], _, _ => ⟨fun i h => absurd h (Nat.not_lt_zero i), fun i j hi => absurd hi (Nat.not_lt_zero i)⟩
  | x :: r, p, h => by
    obtain ⟨i1, i2⟩ := up_lt h.2
    have hx := h.1
    refine ⟨fun i hi => ?_, fun i j hi hj hij => ?_⟩
    · cases i with
      | zero => exact hx
      | succ i =>
        have := i1 i (by simpa using hi)
        rw [List.getElem_cons_succ]
        omega
    · cases j with
      | zero => omega
      | succ j =>
        cases i with
        | zero => exact i1 j (by simpa using hj)
        | succ i => exact i2 i j (by simpa using hi) (by simpa using hj) (by omega)
theorem chk_lt {d : Int} {l : List Po} (h : chk d l = 0) (i j : Nat) (hi : i < l.length) (hj : j < l.length) (hij : i < j) : l[i].doc < l[j].doc := by
  have := (up_lt (chk_up h)).2 i j (by rw [List.length_map]; exact hi) (by rw [List.length_map]; exact hj) hij
  rw [List.getElem_map, List.getElem_map] at this
  exact this
/-- To a document that is there, and behind it. -/
theorem adv_at {d : Int} {l : List Po} (h : chk d l = 0) {k i : Nat} (hk : k ≤ i) (hi : i < l.length) : adv l l[i].doc k = i :=
  adv_eq hk (by omega) (fun j hj _ h2 => chk_lt h j i hj hi h2) (fun _ => Int.le_refl _)
theorem adv_next {d : Int} {l : List Po} (h : chk d l = 0) {i : Nat} (hi : i < l.length) : adv l (l[i].doc + 1) i = i + 1 :=
  adv_eq (by omega) (by omega) (fun j hj h1 h2 => by
    obtain rfl : j = i := by omega
    omega) (fun h1 => by
    have := chk_lt h i (i + 1) hi h1 (by omega)
    omega)
/-- Among the multiples of a step. -/
theorem adv_long {l : List Po} {s : Nat} (hs : 0 < s) (hl : ∀ i (h : i < l.length), l[i].doc = ((i * s : Nat) : Int)) {k : Nat} (hk : k ≤ l.length) (g : Nat) : adv l g k = Nat.max k (Nat.min l.length ((g + s - 1) / s)) := by
  have hq : ∀ i : Nat, i * s < g ↔ i < (g + s - 1) / s := fun i => by
    rw [Nat.lt_div_iff_mul_lt hs]
    constructor <;> intro h <;> rw [Nat.mul_comm] at * <;> omega
  generalize (g + s - 1) / s = q at *
  refine adv_eq (Nat.le_max_left _ _) (Nat.max_le.2 ⟨hk, Nat.min_le_left _ _⟩) (fun i hi h1 h2 => ?_) (fun h => ?_)
  · rw [hl i hi]
    have h3 : i < q := by
      rcases Nat.lt_or_ge i (Nat.min l.length q) with h | h
      · exact Nat.lt_of_lt_of_le h (Nat.min_le_right _ _)
      · exact absurd h2 (Nat.not_lt.2 (Nat.max_le.2 ⟨h1, h⟩))
    have := (hq i).2 h3
    exact Int.ofNat_lt.2 this
  · rw [hl _ h]
    have h3 : ¬ Nat.max k (Nat.min l.length q) < q := fun h4 => by
      have h5 : Nat.min l.length q ≤ Nat.max k (Nat.min l.length q) := Nat.le_max_right _ _
      rcases Nat.le_total l.length q with h6 | h6
      · rw [show Nat.min l.length q = l.length from Nat.min_eq_left h6] at h h5
        omega
      · rw [show Nat.min l.length q = q from Nat.min_eq_right h6] at h4 h5
        omega
    have := fun h4 => h3 ((hq _).1 h4)
    exact Int.ofNat_le.2 (Nat.le_of_not_lt this)
end Pt
end Go.Proofs.Ytokdjaljeckghaa
