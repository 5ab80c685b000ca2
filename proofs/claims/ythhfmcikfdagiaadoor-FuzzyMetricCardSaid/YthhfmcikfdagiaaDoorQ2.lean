/-
  Lemmas on automata, the program's calls and the given ones, put together of 23 texts (part 2).
-/
import Derived.Test.YthhfmcikfdagiaaDoorQ1
import Derived.Test.YthhfmcikfdagiaaDoorProg
import Derived.WalkKit
import Derived.WalkSpells
import Derived.WalkLawsBesides
import Derived.IntWalk
import Derived.Lib.Hide
import Derived.OwnWalk
import Derived.Deep.LoopGhost
import Derived.Deep.OwnRows
import Derived.BigQuiet
import Derived.Laws.AppendOwnNone
import Derived.Laws.StructEq
import Derived.Maps.AppendAt
import Derived.ArgAppend
import Derived.Maps.OwnSet
import Derived.Maps.OwnOps
import Derived.Deep.AppendLies
import Derived.Deep.RegionHeld3
import Derived.Deep.RegionWith
import Derived.Deep.RegionLaw
import Derived.BigRegion
/-
  Few sets of a word's loose states are met: a set is told by how many characters were gone over, how near the beginnings about there are, and the last bytes; no program is named here.
-/
namespace Go.Proofs.YthhfmcikfdagiaaDoor.Sp
open Go.Lib
/-- What begins a character's one row begins its bytes. -/
theorem one_pre {c : Int} {row : List (Int × Int)} (h : row ∈ rows c c) {x : List Nat} (hf : PreN row x) : x = (word c).take x.length ∧ row.length = (word c).length := by
  obtain ⟨p, hp, rfl⟩ := List.mem_map.1 h
  obtain ⟨f, l, tails, t, _, hg, h1, h2⟩ := pairs_all c c p hp
  have h3 := hg.le
  have e1 : p.1 = c := by omega
  have e2 : p.2 = c := by omega
  have hz : ∀ (z : List Int) (x : List Nat), PreN (z.zip z) x → x = (z.map Int.toNat).take x.length := by
    intro z
    induction z with
    | nil =>
      intro x hx
      obtain rfl : x = [] := List.length_eq_zero_iff.1 (by simpa using hx.1)
      rfl
    | cons a z ih =>
      intro x hx
      obtain ⟨h2, h3⟩ := hx
      cases x with
      | nil => rfl
      | cons b x =>
        have hb := h3 0 (a, a) b rfl rfl
        have hb2 : b = a.toNat := by dsimp only at hb; omega
        have := ih x ⟨by simpa using h2, fun i r c' a' b' => h3 (i + 1) r c' (by simpa using a') (by simpa using b')⟩
        rw [List.length_cons, List.map_cons, List.take_succ_cons, ← this, hb2]
  unfold rowOf at hf ⊢
  rw [e1, e2] at hf ⊢
  rw [word_z]
  exact ⟨hz _ _ hf, by simp⟩
theorem full_nine : (rows 0 1114111).length = 9 := by rw [rows_full]; rfl
/-- One row of all characters begins so at most. -/
theorem full_one {e e' : Nat} {r r' : List (Int × Int)} (h : (rows 0 1114111)[e]? = some r) (h' : (rows 0 1114111)[e']? = some r') {x : List Nat} (hx : 1 ≤ x.length) (hp : PreN r x) (hp' : PreN r' x) : e = e' := by
  have key : ∀ {e e' : Nat} {r r' : List (Int × Int)}, (rows 0 1114111)[e]? = some r → (rows 0 1114111)[e']? = some r' → PreN r x → PreN r' x → ¬ e < e' := by
    intro e e' r r' h h' hp hp' hlt
    obtain ⟨l1, rfl⟩ := List.getElem?_eq_some_iff.1 h
    obtain ⟨l2, rfl⟩ := List.getElem?_eq_some_iff.1 h'
    have hd := List.pairwise_iff_getElem.1 full_disj e e' l1 l2 hlt
    have q1 := hp.1
    have q2 := hp'.1
    have k := hd _ _ (List.getElem?_eq_getElem (by omega)) (List.getElem?_eq_getElem (by omega))
    have p1 := hp.2 0 _ x[0] (List.getElem?_eq_getElem (by omega)) (List.getElem?_eq_getElem (by omega))
    have p2 := hp'.2 0 _ x[0] (List.getElem?_eq_getElem (by omega)) (List.getElem?_eq_getElem (by omega))
    omega
  have k1 := key h h' hp hp'
  have k2 := key h' h hp' hp
  omega
end Go.Proofs.YthhfmcikfdagiaaDoor.Sp

namespace Go.Proofs.YthhfmcikfdagiaaDoor.Lv
open Go.Lib
open Au (Arc Lo Star May has)
open Sp (rows lead Led bs Path MP InRow word Part Shape FitsN PreN)
open Wl (words words_nil words_snoc word_ne)

theorem dist_app3 (u v : List Int) (c : Int) : dist u v ≤ dist u (v ++ [c]) + 1 := by
  have h1 := dist_way u (v ++ [c]) v
  have h2 : dist (v ++ [c]) v ≤ 1 := ed_dist (by
    have := (Ed.refl v).append (Ed.del c .nil)
    simpa using this)
  omega
section
variable (cs : List Int) (x : Nat)
/-- The word behind the exact characters, and what is no character. -/
def wd : List Int := cs.drop x ++ List.replicate 30 (-1)
/-- How near a text is to the beginning of so many less two. -/
def dj (t : List Int) (j : Nat) : Nat := dist (t.drop x) ((wd cs x).take (j - 2 - x)) + (x + 2 - j)
variable {cs x}
theorem dj_step {t : List Int} {j : Nat} (_hx : x ≤ cs.length) (hj : j ≤ 21) : dj cs x t j ≤ dj cs x t (j + 1) + 1 ∧ dj cs x t (j + 1) ≤ dj cs x t j + 1 := by
  have hl : (wd cs x).length = cs.length - x + 30 := by simp [wd]
  unfold dj
  by_cases h : j < x + 2
  · rw [show j - 2 - x = 0 by omega, show j + 1 - 2 - x = 0 by omega]
    omega
  · have e : (wd cs x).take (j + 1 - 2 - x) = (wd cs x).take (j - 2 - x) ++ [(wd cs x)[j - 2 - x]'(by omega)] := by
      rw [show j + 1 - 2 - x = j - 2 - x + 1 by omega]
      exact List.take_succ_eq_append_getElem (by omega)
    rw [e]
    have h1 := dist_app2 (t.drop x) ((wd cs x).take (j - 2 - x)) ((wd cs x)[j - 2 - x]'(by omega))
    have h2 := dist_app3 (t.drop x) ((wd cs x).take (j - 2 - x)) ((wd cs x)[j - 2 - x]'(by omega))
    omega
theorem dj_far {t : List Int} {j : Nat} (_hx : x ≤ cs.length) (hj : j ≤ 21) (ht : x ≤ t.length) : t.length + 2 ≤ j + dj cs x t j ∧ j ≤ t.length + 2 + dj cs x t j := by
  have hl : (wd cs x).length = cs.length - x + 30 := by simp [wd]
  have h := dist_len (t.drop x) ((wd cs x).take (j - 2 - x))
  rw [List.length_drop, List.length_take, hl] at h
  unfold dj
  omega
theorem near_dj {t : List Int} {r i : Nat} (hx : x ≤ i) (hi : i ≤ cs.length) (ht : x ≤ t.length) (hp : t.take x = cs.take x) : Near cs x t r i ↔ dj cs x t (i + 2) ≤ r := by
  have e : (wd cs x).take (i - x) = (cs.take i).drop x := by
    unfold wd
    rw [List.take_append_of_le_length (by rw [List.length_drop]; omega), List.drop_take]
  have e2 : dj cs x t (i + 2) = dist (t.drop x) ((cs.take i).drop x) := by
    unfold dj
    rw [show i + 2 - 2 - x = i - x by omega, e]
    omega
  rw [e2]
  constructor
  · rintro (⟨h, _⟩ | ⟨_, _, _, h⟩)
    · omega
    · exact h
  · intro h
    exact .inr ⟨hx, ht, hp, h⟩
theorem near_len {t : List Int} {r i : Nat} (hi : i ≤ cs.length) (h : Near cs x t r i) : t.length ≤ i + r ∧ i ≤ t.length + r := by
  rcases h with ⟨h1, rfl, rfl⟩ | ⟨h1, h2, h3, h4⟩
  · rw [List.length_take]
    omega
  · have := dist_len (t.drop x) ((cs.take i).drop x)
    rw [List.length_drop, List.length_drop, List.length_take] at this
    omega
/-- A text that leads somewhere. -/
def Ok (cs : List Int) (x : Nat) (t : List Int) : Prop := (t.length < x ∧ t = cs.take t.length) ∨ (x ≤ t.length ∧ t.take x = cs.take x)
theorem near_ok {t : List Int} {r i : Nat} (hi : i ≤ cs.length) (h : Near cs x t r i) : Ok cs x t := by
  rcases h with ⟨h1, rfl, rfl⟩ | ⟨h1, h2, h3, h4⟩
  · have : (cs.take i).length = i := by rw [List.length_take]; omega
    exact .inl ⟨by omega, by rw [this]⟩
  · exact .inr ⟨h2, h3⟩
end
/-- Where something stands in a list. -/
def pos (a : List Nat) : List (List Nat) → Nat
  | [] => 0
  | b :: l => if a = b then 0 else pos a l + 1
theorem pos_lt {a : List Nat} : ∀ {l : List (List Nat)}, a ∈ l → pos a l < l.length
  | b :: l, h => by
    unfold pos
    by_cases e : a = b
    · rw [if_pos e]; simp
    · rw [if_neg e]
      rcases List.mem_cons.1 h with h | h
      · exact absurd h e
      · have := pos_lt h
        simp only [List.length_cons]
        omega
theorem pos_inj {a b : List Nat} : ∀ {l : List (List Nat)}, a ∈ l → b ∈ l → pos a l = pos b l → a = b
  | c :: l, ha, hb, h => by
    unfold pos at h
    by_cases e : a = c
    · by_cases e2 : b = c
      · rw [e, e2]
      · rw [if_pos e, if_neg e2] at h; omega
    · by_cases e2 : b = c
      · rw [if_neg e, if_pos e2] at h; omega
      · rw [if_neg e, if_neg e2] at h
        exact pos_inj ((List.mem_cons.1 ha).resolve_left e) ((List.mem_cons.1 hb).resolve_left e2) (by omega)
/-- How near five beginnings can be. -/
def nears : List (List Nat) := [[2, 1, 0, 1, 2], [2, 1, 1, 1, 2], [2, 1, 1, 2, 2], [2, 1, 1, 2, 3], [2, 2, 1, 1, 2], [2, 2, 1, 2, 2], [2, 2, 1, 2, 3], [3, 2, 1, 1, 2], [3, 2, 1, 2, 2], [3, 2, 1, 2, 3],
  [2, 1, 2, 1, 2], [2, 1, 2, 2, 2], [2, 1, 2, 2, 3], [2, 1, 2, 3, 2], [2, 1, 2, 3, 3], [2, 2, 2, 1, 2], [2, 2, 2, 2, 2], [2, 2, 2, 2, 3], [2, 2, 2, 3, 2], [2, 2, 2, 3, 3], [3, 2, 2, 1, 2], [3, 2, 2, 2, 2], [3, 2, 2, 2, 3], [3, 2, 2, 3, 2], [3, 2, 2, 3, 3],
  [2, 3, 2, 1, 2], [2, 3, 2, 2, 2], [2, 3, 2, 2, 3], [2, 3, 2, 3, 2], [2, 3, 2, 3, 3], [3, 3, 2, 1, 2], [3, 3, 2, 2, 2], [3, 3, 2, 2, 3], [3, 3, 2, 3, 2], [3, 3, 2, 3, 3],
  [2, 2, 3, 2, 2], [2, 2, 3, 2, 3], [2, 2, 3, 3, 2], [2, 2, 3, 3, 3], [3, 2, 3, 2, 2], [3, 2, 3, 2, 3], [3, 2, 3, 3, 2], [3, 2, 3, 3, 3], [2, 3, 3, 2, 2], [2, 3, 3, 2, 3], [2, 3, 3, 3, 2], [2, 3, 3, 3, 3], [3, 3, 3, 2, 2], [3, 3, 3, 2, 3], [3, 3, 3, 3, 2], [3, 3, 3, 3, 3]]
theorem nears_all : ∀ a b c d e : Fin 4, 2 ≤ a.val → 1 ≤ b.val → 1 ≤ d.val → 2 ≤ e.val → a.val ≤ b.val + 1 → b.val ≤ a.val + 1 → b.val ≤ c.val + 1 → c.val ≤ b.val + 1 → c.val ≤ d.val + 1 → d.val ≤ c.val + 1 → d.val ≤ e.val + 1 → e.val ≤ d.val + 1 → [a.val, b.val, c.val, d.val, e.val] ∈ nears := by
  decide +kernel
section
variable (cs : List Int) (x : Nat)
def vec (t : List Int) : List Nat := [min 3 (dj cs x t t.length), min 3 (dj cs x t (t.length + 1)), min 3 (dj cs x t (t.length + 2)), min 3 (dj cs x t (t.length + 3)), min 3 (dj cs x t (t.length + 4))]
def vcode (t : List Int) : Nat := if x ≤ t.length then pos (vec cs x t) nears else 0
def bcode (t : List Int) : Nat := (if dj cs x t (t.length + 2) = 0 then 0 else if dj cs x t (t.length + 2) ≤ 1 then 1 else 2) + 3 * (if dj cs x t (t.length + 1) ≤ 1 then 0 else 1) + 6 * (if dj cs x t (t.length + 3) ≤ 1 then 0 else 1)
/-- Do the last bytes begin a character of the word about there? -/
def Mine (t : List Int) (p : List Nat) (d : Nat) : Prop := d < 5 ∧ ∃ i, t.length + d = i + 2 ∧ i < cs.length ∧ p = (word (cs.getD i 0)).take p.length
/-- Are they within a row of all characters? -/
def Amid (p : List Nat) (e : Nat) : Prop := ∃ row, (rows 0 1114111)[e]? = some row ∧ PreN row p ∧ p.length < row.length
open Classical in
noncomputable def rcode (p : List Nat) : Nat := if h : ∃ e, Amid p e then Classical.choose h * 3 + (p.length - 1) else 27
open Classical in
noncomputable def kcode (t : List Int) (p : List Nat) : Nat := if h : ∃ d, Mine cs t p d then vcode cs x t * 15 + Classical.choose h * 3 + (p.length - 1) else 765 + bcode cs x t * 28 + rcode p
variable {cs x}
theorem vec_in {t : List Int} (hx : x ≤ cs.length) (ht : x ≤ t.length) (hT : t.length ≤ 17) : vec cs x t ∈ nears := by
  have s0 := dj_step (t := t) (j := t.length) hx (by omega)
  have s1 := dj_step (t := t) (j := t.length + 1) hx (by omega)
  have s2 := dj_step (t := t) (j := t.length + 2) hx (by omega)
  have s3 := dj_step (t := t) (j := t.length + 3) hx (by omega)
  have f0 := dj_far (t := t) (j := t.length) hx (by omega) ht
  have f1 := dj_far (t := t) (j := t.length + 1) hx (by omega) ht
  have f3 := dj_far (t := t) (j := t.length + 3) hx (by omega) ht
  have f4 := dj_far (t := t) (j := t.length + 4) hx (by omega) ht
  unfold vec
  simp only [Nat.add_assoc, Nat.reduceAdd] at s1 s2 s3
  generalize dj cs x t t.length = a at *
  generalize dj cs x t (t.length + 1) = b at *
  generalize dj cs x t (t.length + 2) = c at *
  generalize dj cs x t (t.length + 3) = d at *
  generalize dj cs x t (t.length + 4) = e at *
  exact nears_all ⟨min 3 a, by omega⟩ ⟨min 3 b, by omega⟩ ⟨min 3 c, by omega⟩ ⟨min 3 d, by omega⟩ ⟨min 3 e, by omega⟩ (by dsimp only; omega) (by dsimp only; omega) (by dsimp only; omega) (by dsimp only; omega) (by dsimp only; omega) (by dsimp only; omega) (by dsimp only; omega) (by dsimp only; omega) (by dsimp only; omega) (by dsimp only; omega) (by dsimp only; omega) (by dsimp only; omega)
theorem vcode_lt {t : List Int} (hx : x ≤ cs.length) (hT : t.length ≤ 17) : vcode cs x t ≤ 50 := by
  unfold vcode
  split
  · rename_i h
    have := pos_lt (vec_in hx h hT)
    have e : nears.length = 51 := rfl
    omega
  · omega
theorem bcode_lt (t : List Int) : bcode cs x t ≤ 11 := by
  unfold bcode
  repeat' split
  all_goals omega
theorem rcode_le {p : List Nat} (hp : 1 ≤ p.length) : rcode p ≤ 27 ∧ ((∃ e, Amid p e) → ∃ e, Amid p e ∧ rcode p = e * 3 + (p.length - 1) ∧ rcode p ≤ 26) ∧ ((¬ ∃ e, Amid p e) → rcode p = 27) := by
  by_cases h : ∃ e, Amid p e
  · obtain ⟨row, h1, h2, h3⟩ := Classical.choose_spec h
    have hl := (List.getElem?_eq_some_iff.1 h1).1
    rw [Sp.full_nine] at hl
    have h4 := (Sp.rows_shape (List.mem_of_getElem? h1)).len
    have e : rcode p = Classical.choose h * 3 + (p.length - 1) := by unfold rcode; rw [dif_pos h]
    exact ⟨by omega, fun _ => ⟨_, Classical.choose_spec h, e, by omega⟩, fun k => absurd h k⟩
  · have e : rcode p = 27 := by unfold rcode; rw [dif_neg h]
    exact ⟨by omega, fun k => absurd k h, fun _ => e⟩
theorem rcode_inj {p p' : List Nat} (hp : 1 ≤ p.length) (hp' : 1 ≤ p'.length) (h : rcode p = rcode p') : ((∃ e, Amid p e ∧ Amid p' e) ∧ p.length = p'.length) ∨ ((¬ ∃ e, Amid p e) ∧ ¬ ∃ e, Amid p' e) := by
  obtain ⟨_, a1, a2⟩ := rcode_le hp
  obtain ⟨_, b1, b2⟩ := rcode_le hp'
  by_cases q : ∃ e, Amid p e
  · by_cases q' : ∃ e, Amid p' e
    · obtain ⟨e, c1, c2, c3⟩ := a1 q
      obtain ⟨e', d1, d2, d3⟩ := b1 q'
      have hl : p.length ≤ 3 := by
        obtain ⟨row, h1, _, h3⟩ := c1
        have := (Sp.rows_shape (List.mem_of_getElem? h1)).len
        omega
      have hl' : p'.length ≤ 3 := by
        obtain ⟨row, h1, _, h3⟩ := d1
        have := (Sp.rows_shape (List.mem_of_getElem? h1)).len
        omega
      obtain rfl : e = e' := by omega
      exact .inl ⟨⟨e, c1, d1⟩, by omega⟩
    · have := b2 q'
      obtain ⟨_, _, _, _⟩ := a1 q
      omega
  · by_cases q' : ∃ e, Amid p' e
    · have := a2 q
      obtain ⟨_, _, _, _⟩ := b1 q'
      omega
    · exact .inr ⟨q, q'⟩
theorem kcode_of (cs : List Int) (x : Nat) (t : List Int) (p : List Nat) : ((∃ d, Mine cs t p d ∧ kcode cs x t p = vcode cs x t * 15 + d * 3 + (p.length - 1))) ∨ ((¬ ∃ d, Mine cs t p d) ∧ kcode cs x t p = 765 + bcode cs x t * 28 + rcode p) := by
  by_cases h : ∃ d, Mine cs t p d
  · exact .inl ⟨Classical.choose h, Classical.choose_spec h, by unfold kcode; rw [dif_pos h]⟩
  · exact .inr ⟨h, by unfold kcode; rw [dif_neg h]⟩
end
theorem mine_len {cs : List Int} {t : List Int} {p : List Nat} {d : Nat} (h3 : ∀ c ∈ cs, (word c).length ≤ 3) (h : Mine cs t p d) : p.length ≤ 3 := by
  obtain ⟨_, i, _, hi, e⟩ := h
  have := h3 _ (List.getElem_mem hi)
  rw [getD_eq hi] at e
  have := congrArg List.length e
  rw [List.length_take] at this
  omega

section
variable {cs : List Int} {K x : Nat} {n0 : List Lo} {E : List Sp.Edge} {st : Nat → Nat → Nat} {n : List Lo}
/-- Where a text of characters and some bytes lead. -/
theorem Fz.path_ext (F : Fz cs K x n0 E st n) {t : List Int} {p : List Nat} (hp : Part p) {k : Nat} :
    Path n (words t ++ p) k ↔ ∃ e ed, E[e]? = some ed ∧ MP n0 E (words t) ed.src ∧ PreN ed.row p ∧ ((p.length < ed.row.length ∧ k = st e p.length) ∨ (p.length = ed.row.length ∧ Star n0 ed.dst k)) := by
  have hp1 : 1 ≤ p.length := by obtain ⟨b, t, rfl, _⟩ := hp; simp
  rw [F.led.path_iff F.may0, Sp.inRow_iff F.shape]
  constructor
  · rintro (h | ⟨u, y, h1, h2, e, ed, h3, h4, h5, h6, h7⟩)
    · generalize hw : words t ++ p = w at h
      cases h with
      | nil _ =>
        have := congrArg List.length hw
        rw [List.length_append, List.length_nil] at this
        omega
      | arc _ h1 h2 _ _ _ => rw [F.arcs _ _ h1] at h2; cases h2
      | @edge u y l ed h1 h2 h3 h4 =>
        have hsh := F.shape _ h2
        have hy : 1 ≤ y.length := by have := hsh.pos; have := h3.1; omega
        obtain ⟨rfl, rfl⟩ := Sp.part_one hp (Sp.preN_part hsh h3.2 hy).1 hw
        obtain ⟨e, he⟩ := List.mem_iff_getElem?.1 h2
        exact ⟨e, ed, he, h1, h3.2, .inr ⟨h3.1, h4⟩⟩
    · obtain ⟨rfl, rfl⟩ := Sp.part_one hp h1 h2
      exact ⟨e, ed, h3, h7, h6, .inl ⟨h4, h5⟩⟩
  · rintro ⟨e, ed, h1, h2, h3, ⟨h4, h5⟩ | ⟨h4, h5⟩⟩
    · exact .inr ⟨_, p, hp, rfl, e, ed, h1, h4, h5, h3, h2⟩
    · exact .inl (.edge h2 (List.mem_of_getElem? h1) ⟨h4, h3⟩ h5)
/-- What leads somewhere is a text of characters and some bytes. -/
theorem Fz.split (F : Fz cs K x n0 E st n) (hw : ∀ c ∈ cs, Ut.whole c = true) {w : List Nat} {k : Nat} (h : Path n w k) : w = [] ∨ ∃ t p, Ut.allW t = true ∧ Part p ∧ w = words t ++ p := by
  rcases (F.led.path_iff F.may0).1 h with h | h
  · cases h with
    | nil _ => exact .inl rfl
    | arc _ h1 h2 _ _ _ => rw [F.arcs _ _ h1] at h2; cases h2
    | @edge u y l ed h1 h2 h3 h4 =>
      have hsh := F.shape _ h2
      obtain ⟨t, ha, rfl⟩ := F.chars hw h1
      exact .inr ⟨t, y, ha, (Sp.preN_part hsh h3.2 (by have := hsh.pos; have := h3.1; omega)).1, rfl⟩
  · obtain ⟨u, y, h1, rfl, e, ed, h3, h4, h5, h6, h7⟩ := (Sp.inRow_iff F.shape).1 h
    obtain ⟨t, ha, rfl⟩ := F.chars hw h7
    exact .inr ⟨t, y, ha, h1, rfl⟩
/-- What edge can be gone along behind a text. -/
theorem Fz.edge_of (F : Fz cs K x n0 E st n) (hw : ∀ c ∈ cs, Ut.whole c = true) (hx : x ≤ cs.length) {t : List Int} (ht : Ut.allW t = true) {e : Nat} {ed : Sp.Edge} (h1 : E[e]? = some ed) (h2 : MP n0 E (words t) ed.src) {p : List Nat} (h3 : PreN ed.row p) :
    (∃ r i, r ≤ K ∧ i < cs.length ∧ Near cs x t r i ∧ p = (word (cs.getD i 0)).take p.length) ∨ (∃ r i, r < K ∧ x ≤ i ∧ i ≤ cs.length ∧ Near cs x t r i ∧ ∃ row ∈ rows 0 1114111, ed = ⟨pl cs.length (2 * r) i, row, pl cs.length (2 * r + 1) i⟩) := by
  rcases (F.edge ed).1 (List.mem_of_getElem? h1) with ⟨r, i, ⟨g1, g2⟩, row, g3, rfl⟩ | ⟨r, i, ⟨g1, g2, g4⟩, row, g3, rfl⟩
  · obtain ⟨h4, h5⟩ := (F.even_iff hw hx ht (Nat.le_of_lt g2)).1 h2
    exact .inl ⟨r, i, h4, g2, h5, (Sp.one_pre g3 h3).1⟩
  · obtain ⟨h4, h5⟩ := (F.even_iff hw hx ht g4).1 h2
    exact .inr ⟨r, i, g1, g2, g4, h5, row, g3, rfl⟩
/-- A text that leads on. -/
structure On (cs : List Int) (K x : Nat) (n : List Lo) (t : List Int) (p : List Nat) : Prop where
  all : Ut.allW t = true
  part : Part p
  some_ : ∃ k, Path n (words t ++ p) k
theorem Fz.on (F : Fz cs K x n0 E st n) (hw : ∀ c ∈ cs, Ut.whole c = true) (hx : x ≤ cs.length) (hK : K ≤ 2) (hn : cs.length ≤ 16) {t : List Int} {p : List Nat} (h : On cs K x n t p) : t.length ≤ 17 ∧ Ok cs x t ∧ 1 ≤ p.length ∧ ((¬ ∃ d, Mine cs t p d) → ∃ row ∈ rows 0 1114111, PreN row p) := by
  have hp1 : 1 ≤ p.length := by obtain ⟨b, t, rfl, _⟩ := h.part; simp
  obtain ⟨k, hk⟩ := h.some_
  obtain ⟨e, ed, h1, h2, h3, _⟩ := (F.path_ext h.part).1 hk
  rcases F.edge_of hw hx h.all h1 h2 h3 with ⟨r, i, g1, g2, g3, g4⟩ | ⟨r, i, g1, g2, g3, g4, row, g5, rfl⟩
  · have := near_len (Nat.le_of_lt g2) g3
    refine ⟨by omega, near_ok (Nat.le_of_lt g2) g3, hp1, fun hno => ?_⟩
    exact absurd ⟨i + 2 - t.length, by omega, i, by omega, g2, g4⟩ hno
  · have := near_len g3 g4
    exact ⟨by omega, near_ok g3 g4, hp1, fun _ => ⟨row, g5, h3⟩⟩
theorem Fz.kcode_lt (F : Fz cs K x n0 E st n) (hw : ∀ c ∈ cs, Ut.whole c = true) (hx : x ≤ cs.length) (hK : K ≤ 2) (hn : cs.length ≤ 16) (h3 : ∀ c ∈ cs, (word c).length ≤ 3) {t : List Int} {p : List Nat} (h : On cs K x n t p) : kcode cs x t p ≤ 1100 := by
  obtain ⟨h1, _, h2, _⟩ := F.on hw hx hK hn h
  have hv := vcode_lt (t := t) hx h1
  have hb := bcode_lt (cs := cs) (x := x) t
  have hr := (rcode_le h2).1
  rcases kcode_of cs x t p with ⟨d, h4, e⟩ | ⟨_, e⟩
  · have := mine_len h3 h4
    have := h4.1
    omega
  · omega
/-- As near as the other one: where only this counts. -/
theorem near_same {t t' : List Int} (hx : x ≤ cs.length) (ht : t.length ≤ 17) (hl : t.length = t'.length) (ho : Ok cs x t) (ho' : Ok cs x t') (hv : vcode cs x t = vcode cs x t') {r i : Nat} (hr : r ≤ 2) (hi : i ≤ cs.length) (h : Near cs x t r i) : Near cs x t' r i := by
  rcases ho with ⟨h1, h2⟩ | ⟨h1, h2⟩
  · rcases ho' with ⟨h3, h4⟩ | ⟨h3, h4⟩
    · rw [h2, hl, ← h4] at h
      exact h
    · omega
  · rcases ho' with ⟨h3, h4⟩ | ⟨h3, h4⟩
    · omega
    · have hxi : x ≤ i := by
        rcases h with ⟨a, _, rfl⟩ | ⟨a, _⟩
        · rw [List.length_take] at h1; omega
        · exact a
      have hd := near_len hi h
      unfold vcode at hv
      rw [if_pos h1, if_pos h3] at hv
      have he := pos_inj (vec_in hx h1 ht) (vec_in hx h3 (by omega)) hv
      rw [near_dj hxi hi h1 h2] at h
      rw [near_dj hxi hi h3 h4]
      unfold vec at he
      rw [← hl] at he
      simp only [List.cons.injEq, and_true] at he
      obtain ⟨e0, e1, e2, e3, e4⟩ := he
      have hc : i + 2 = t.length ∨ i + 2 = t.length + 1 ∨ i + 2 = t.length + 2 ∨ i + 2 = t.length + 3 ∨ i + 2 = t.length + 4 := by omega
      rcases hc with e | e | e | e | e <;> rw [e] at h ⊢ <;> omega
theorem near_mid {t t' : List Int} (hl : t.length = t'.length) (ho' : Ok cs x t') (hb : bcode cs x t = bcode cs x t') {r i : Nat} (hr : r ≤ 1) (hxi : x ≤ i) (hi : i ≤ cs.length) (h : Near cs x t r i) : Near cs x t' r i := by
  have hd := near_len hi h
  obtain ⟨h1, h2⟩ : x ≤ t.length ∧ t.take x = cs.take x := by
    rcases h with ⟨a, _⟩ | ⟨_, a, b, _⟩
    · omega
    · exact ⟨a, b⟩
  rcases ho' with ⟨h3, h4⟩ | ⟨h3, h4⟩
  · omega
  · have hn0 := near_len hi h
    rw [near_dj hxi hi h1 h2] at h
    rw [near_dj hxi hi h3 h4]
    unfold bcode at hb
    rw [← hl] at hb
    have hx2 : x ≤ cs.length := by omega
    have hc : i + 2 = t.length + 1 ∨ i + 2 = t.length + 2 ∨ i + 2 = t.length + 3 := by omega
    have key : ∀ a b c a' b' c' : Nat, (if b = 0 then 0 else if b ≤ 1 then 1 else 2) + 3 * (if a ≤ 1 then 0 else 1) + 6 * (if c ≤ 1 then 0 else 1) = (if b' = 0 then 0 else if b' ≤ 1 then 1 else 2) + 3 * (if a' ≤ 1 then 0 else 1) + 6 * (if c' ≤ 1 then 0 else 1) → (a ≤ 1 ↔ a' ≤ 1) ∧ (b ≤ 0 ↔ b' ≤ 0) ∧ (b ≤ 1 ↔ b' ≤ 1) ∧ (c ≤ 1 ↔ c' ≤ 1) := by
      intro a b c a' b' c' h
      repeat' split at h
      all_goals omega
    obtain ⟨k1, k2, k3, k4⟩ := key _ _ _ _ _ _ hb
    rcases hc with e | e | e
    · rw [e] at h ⊢
      have : r = 1 := by omega
      subst this
      exact k1.1 h
    · rw [e] at h ⊢
      have : r = 0 ∨ r = 1 := by omega
      rcases this with rfl | rfl
      · exact k2.1 h
      · exact k3.1 h
    · rw [e] at h ⊢
      have : r = 1 := by omega
      subst this
      exact k4.1 h
theorem Fz.same (F : Fz cs K x n0 E st n) (hw : ∀ c ∈ cs, Ut.whole c = true) (hx : x ≤ cs.length) (hK : K ≤ 2) (hn : cs.length ≤ 16) (h3 : ∀ c ∈ cs, (word c).length ≤ 3) {t t' : List Int} {p p' : List Nat} (h : On cs K x n t p) (h' : On cs K x n t' p') (hl : t.length = t'.length) (he : kcode cs x t p = kcode cs x t' p') {k : Nat} (hk : Path n (words t ++ p) k) : Path n (words t' ++ p') k := by
  obtain ⟨a1, a2, a3, a4⟩ := F.on hw hx hK hn h
  obtain ⟨b1, b2, b3, b4⟩ := F.on hw hx hK hn h'
  have hv := vcode_lt (t := t) hx a1
  have hv' := vcode_lt (t := t') hx b1
  obtain ⟨e, ed, g1, g2, g3, g4⟩ := (F.path_ext h.part).1 hk
  have hsrc : ∀ (i r : Nat), i ≤ cs.length → Near cs x t' r i → r ≤ K → MP n0 E (words t') (pl cs.length (2 * r) i) := fun i r hi hn hr => (F.even_iff hw hx h'.all hi).2 ⟨hr, hn⟩
  rcases kcode_of cs x t p with ⟨d, c1, c2⟩ | ⟨c1, c2⟩ <;> rcases kcode_of cs x t' p' with ⟨d', d1, d2⟩ | ⟨d1, d2⟩
  · have l1 := mine_len h3 c1
    have l2 := mine_len h3 d1
    obtain ⟨m1, i, m2, m3, m4⟩ := c1
    obtain ⟨m1', i', m2', m3', m4'⟩ := d1
    have q1 : vcode cs x t = vcode cs x t' := by omega
    have q2 : d = d' := by omega
    have q3 : p.length = p'.length := by omega
    obtain rfl : i = i' := by omega
    have hpp : p = p' := by rw [m4, m4', q3]
    subst hpp
    refine (F.path_ext h'.part).2 ⟨e, ed, g1, ?_, g3, g4⟩
    rcases (F.edge ed).1 (List.mem_of_getElem? g1) with ⟨r, i, ⟨o1, o2⟩, row, o3, rfl⟩ | ⟨r, i, ⟨o1, o2, o4⟩, row, o3, rfl⟩
    · obtain ⟨u1, u2⟩ := (F.even_iff hw hx h.all (Nat.le_of_lt o2)).1 g2
      exact hsrc i r (Nat.le_of_lt o2) (near_same hx a1 hl a2 b2 q1 (by omega) (Nat.le_of_lt o2) u2) u1
    · obtain ⟨u1, u2⟩ := (F.even_iff hw hx h.all o4).1 g2
      exact hsrc i r o4 (near_same hx a1 hl a2 b2 q1 (by omega) o4 u2) u1
  · have l1 := mine_len h3 c1
    have := c1.1
    omega
  · have l1 := mine_len h3 d1
    have := d1.1
    omega
  · have r1 := (rcode_le a3).1
    have r2 := (rcode_le b3).1
    have q1 : bcode cs x t = bcode cs x t' := by omega
    have q2 : rcode p = rcode p' := by omega
    rcases F.edge_of hw hx h.all g1 g2 g3 with ⟨r, i, o1, o2, o3, o4⟩ | ⟨r, i, o1, o2, o3, o4, row, o5, rfl⟩
    · have := near_len (Nat.le_of_lt o2) o3
      exact absurd ⟨i + 2 - t.length, by omega, i, by omega, o2, o4⟩ c1
    · have hsr := hsrc i r o3 (near_mid hl b2 q1 (by omega) o2 o3 o4) (by omega)
      obtain ⟨e0, he0⟩ := List.mem_iff_getElem?.1 o5
      rcases rcode_inj a3 b3 q2 with ⟨⟨e1, ⟨row1, v1, v2, v3⟩, row2, z1, z2, z3⟩, hlen⟩ | ⟨n1, n2⟩
      · obtain rfl := Sp.full_one he0 v1 a3 g3 v2
        rw [he0] at v1 z1
        cases v1
        cases z1
        refine (F.path_ext h'.part).2 ⟨e, _, g1, hsr, z2, ?_⟩
        rcases g4 with ⟨w1, w2⟩ | ⟨w1, _⟩
        · exact .inl ⟨z3, by rw [w2, hlen]⟩
        · have : p.length = row.length := w1
          omega
      · rcases g4 with ⟨w1, _⟩ | ⟨_, w2⟩
        · exact absurd ⟨e0, row, he0, g3, w1⟩ n1
        · obtain ⟨row', y1, y2⟩ := b4 d1
          obtain ⟨e', hrow'⟩ := List.mem_iff_getElem?.1 y1
          have y3 : p'.length = row'.length := by
            have := y2.1
            by_cases hlt : p'.length < row'.length
            · exact absurd ⟨e', row', hrow', y2, hlt⟩ n2
            · omega
          have y4 : (⟨pl cs.length (2 * r) i, row', pl cs.length (2 * r + 1) i⟩ : Sp.Edge) ∈ E := (F.edge _).2 (.inr ⟨r, i, ⟨o1, o2, o3⟩, row', y1, rfl⟩)
          obtain ⟨e2, y5⟩ := List.mem_iff_getElem?.1 y4
          exact (F.path_ext h'.part).2 ⟨e2, _, y5, hsr, y2, .inr ⟨y3, w2⟩⟩
open Classical in
/-- Few sets are met. -/
theorem Fz.few (F : Fz cs K x n0 E st n) (hw : ∀ c ∈ cs, Ut.whole c = true) (hx : x ≤ cs.length) (hK : K ≤ 2) (hn : cs.length ≤ 16) (h3 : ∀ c ∈ cs, (word c).length ≤ 3) : ∃ i, Au.Few n 20000 i := by
  let W : List Nat → List Int × List Nat → Prop := fun w tp => On cs K x n tp.1 tp.2 ∧ w = words tp.1 ++ tp.2
  refine Sp.few_of_code F.may 19820 (fun w => if h : ∃ tp, W w tp then 2 + (Classical.choose h).1.length * 1101 + kcode cs x (Classical.choose h).1 (Classical.choose h).2 else if w = [] then 1 else 0) (fun w => ?_) (fun w w' e k => ?_) 20000 (by omega)
  · split
    · rename_i h
      obtain ⟨h1, _⟩ := Classical.choose_spec h
      have k1 := (F.on hw hx hK hn h1).1
      have k2 := F.kcode_lt hw hx hK hn h3 h1
      omega
    · split <;> omega
  · have none_ : ∀ v, (¬ ∃ tp, W v tp) → v ≠ [] → ∀ k, ¬ Path n v k := fun v h1 h2 k hk => by
      rcases F.split hw hk with h | ⟨t, p, g1, g2, rfl⟩
      · exact h2 h
      · exact h1 ⟨(t, p), ⟨g1, g2, k, hk⟩, rfl⟩
    by_cases h : ∃ tp, W w tp
    · by_cases h' : ∃ tp, W w' tp
      · rw [dif_pos h, dif_pos h'] at e
        obtain ⟨g1, g2⟩ := Classical.choose_spec h
        obtain ⟨g1', g2'⟩ := Classical.choose_spec h'
        have k1 := F.kcode_lt hw hx hK hn h3 g1
        have k2 := F.kcode_lt hw hx hK hn h3 g1'
        generalize Classical.choose h = tp at *
        generalize Classical.choose h' = tp' at *
        have e1 : tp.1.length = tp'.1.length := by omega
        have e2 : kcode cs x tp.1 tp.2 = kcode cs x tp'.1 tp'.2 := by omega
        rw [g2, g2']
        exact ⟨F.same hw hx hK hn h3 g1 g1' e1 e2, F.same hw hx hK hn h3 g1' g1 e1.symm e2.symm⟩
      · rw [dif_pos h, dif_neg h'] at e
        split at e <;> omega
    · by_cases h' : ∃ tp, W w' tp
      · rw [dif_neg h, dif_pos h'] at e
        split at e <;> omega
      · rw [dif_neg h, dif_neg h'] at e
        by_cases q : w = []
        · by_cases q' : w' = []
          · rw [q, q']
          · rw [if_pos q, if_neg q'] at e
            cases e
        · by_cases q' : w' = []
          · rw [if_neg q, if_pos q'] at e
            cases e
          · exact ⟨fun hk => absurd hk (none_ w h q k), fun hk => absurd hk (none_ w' h' q' k)⟩
end
end Go.Proofs.YthhfmcikfdagiaaDoor.Lv

/-
  Automata in memory: slices of arcs, of states, of loose states, wherever they lie.
-/
namespace Go.Proofs.YthhfmcikfdagiaaDoor
open Go.RowKit

theorem belowN {B : Nat} {a w : World} (h : Below B a w) (n : Nat) : Below B a (w.drewN n) := h.trans ⟨rfl, rfl, rfl, Nat.le_refl _, fun _ _ => rfl⟩
theorem chain {w w2 w3 : World} (h : Below w.heap.size w w2) (hb : Below w2.heap.size w2 w3) : Below w.heap.size w w3 := h.trans (hb.mono h.size)
theorem cell_same {w w' : World} {a : Addr} (h : w'.heap[a.block]? = w.heap[a.block]?) : w'.cell? a = w.cell? a := World.cell?_of_block (w := w) h

/-- The value v is a slice of these arcs, in a block of F. -/
def ArcS (F : Nat → Prop) (w : World) (v : Value) (l : List Au.Arc) : Prop :=
  ∃ a cap, v = .slice a l.length cap ∧ l.length ≤ cap ∧ cap ≤ 9223372036854775807 ∧ (0 < l.length → ∃ g o, a = some ⟨g, o, none⟩ ∧ g < w.heap.size ∧ F g ∧
    ∀ j (_ : j < l.length), w.cell? ⟨g, o + j * 3, none⟩ = some (.int .i64 l[j].lo) ∧ w.cell? ⟨g, o + j * 3 + 1, none⟩ = some (.int .i64 l[j].hi) ∧ w.cell? ⟨g, o + j * 3 + 2, none⟩ = some (.int .i64 l[j].to))
theorem ArcS.keep {F : Nat → Prop} {w w' : World} {v : Value} {l : List Au.Arc} (h : ArcS F w v l) (hs : w.heap.size ≤ w'.heap.size) (e : ∀ g, F g → g < w.heap.size → w'.heap[g]? = w.heap[g]?) : ArcS F w' v l := by
  obtain ⟨a, cap, h1, h2, h3, h4⟩ := h
  refine ⟨a, cap, h1, h2, h3, fun h0 => ?_⟩
  obtain ⟨g, o, h5, h6, h7, h8⟩ := h4 h0
  have hb := e g h7 h6
  refine ⟨g, o, h5, Nat.lt_of_lt_of_le h6 hs, h7, fun j hj => ?_⟩
  obtain ⟨a1, a2, a3⟩ := h8 j hj
  exact ⟨(cell_same hb).trans a1, (cell_same hb).trans a2, (cell_same hb).trans a3⟩
theorem ArcS.wide {F G : Nat → Prop} {w : World} {v : Value} {l : List Au.Arc} (h : ArcS F w v l) (hm : ∀ g, g < w.heap.size → F g → G g) : ArcS G w v l := by
  obtain ⟨a, cap, h1, h2, h3, h4⟩ := h
  refine ⟨a, cap, h1, h2, h3, fun h0 => ?_⟩
  obtain ⟨g, o, h5, h6, h7, h8⟩ := h4 h0
  exact ⟨g, o, h5, h6, hm g h6 h7, h8⟩
/-- The value v is a slice of these numbers, in a block of F. -/
def NumS (F : Nat → Prop) (w : World) (v : Value) (l : List Int) : Prop :=
  ∃ a cap, v = .slice a l.length cap ∧ l.length ≤ cap ∧ cap ≤ 9223372036854775807 ∧ (0 < l.length → ∃ g o, a = some ⟨g, o, none⟩ ∧ g < w.heap.size ∧ F g ∧ ∀ j (_ : j < l.length), w.cell? ⟨g, o + j, none⟩ = some (.int .i64 l[j]))
theorem NumS.keep {F : Nat → Prop} {w w' : World} {v : Value} {l : List Int} (h : NumS F w v l) (hs : w.heap.size ≤ w'.heap.size) (e : ∀ g, F g → g < w.heap.size → w'.heap[g]? = w.heap[g]?) : NumS F w' v l := by
  obtain ⟨a, cap, h1, h2, h3, h4⟩ := h
  refine ⟨a, cap, h1, h2, h3, fun h0 => ?_⟩
  obtain ⟨g, o, h5, h6, h7, h8⟩ := h4 h0
  have hb := e g h7 h6
  exact ⟨g, o, h5, Nat.lt_of_lt_of_le h6 hs, h7, fun j hj => (cell_same hb).trans (h8 j hj)⟩
/-- The value v is a slice of these states, all of it in blocks of F. -/
def StS (F : Nat → Prop) (w : World) (v : Value) (d : List Au.St) : Prop :=
  ∃ a cap, v = .slice a d.length cap ∧ d.length ≤ cap ∧ cap ≤ 9223372036854775807 ∧ (0 < d.length → ∃ g o, a = some ⟨g, o, none⟩ ∧ g < w.heap.size ∧ F g ∧
    ∀ j (_ : j < d.length), w.cell? ⟨g, o + j * 2, none⟩ = some (.bool d[j].fin) ∧ ∃ va, w.cell? ⟨g, o + j * 2 + 1, none⟩ = some va ∧ ArcS F w va d[j].arcs)
theorem StS.keep {F : Nat → Prop} {w w' : World} {v : Value} {d : List Au.St} (h : StS F w v d) (hs : w.heap.size ≤ w'.heap.size) (e : ∀ g, F g → g < w.heap.size → w'.heap[g]? = w.heap[g]?) : StS F w' v d := by
  obtain ⟨a, cap, h1, h2, h3, h4⟩ := h
  refine ⟨a, cap, h1, h2, h3, fun h0 => ?_⟩
  obtain ⟨g, o, h5, h6, h7, h8⟩ := h4 h0
  have hb := e g h7 h6
  refine ⟨g, o, h5, Nat.lt_of_lt_of_le h6 hs, h7, fun j hj => ?_⟩
  obtain ⟨a1, va, a2, a3⟩ := h8 j hj
  exact ⟨(cell_same hb).trans a1, va, (cell_same hb).trans a2, a3.keep hs e⟩
theorem StS.wide {F G : Nat → Prop} {w : World} {v : Value} {d : List Au.St} (h : StS F w v d) (hm : ∀ g, g < w.heap.size → F g → G g) : StS G w v d := by
  obtain ⟨a, cap, h1, h2, h3, h4⟩ := h
  refine ⟨a, cap, h1, h2, h3, fun h0 => ?_⟩
  obtain ⟨g, o, h5, h6, h7, h8⟩ := h4 h0
  refine ⟨g, o, h5, h6, hm g h6 h7, fun j hj => ?_⟩
  obtain ⟨a1, va, a2, a3⟩ := h8 j hj
  exact ⟨a1, va, a2, a3.wide hm⟩
/-- The value v is a slice of these loose states. -/
def LoS (F : Nat → Prop) (w : World) (v : Value) (n : List Au.Lo) : Prop :=
  ∃ a cap, v = .slice a n.length cap ∧ n.length ≤ cap ∧ cap ≤ 9223372036854775807 ∧ (0 < n.length → ∃ g o, a = some ⟨g, o, none⟩ ∧ g < w.heap.size ∧ F g ∧
    ∀ j (_ : j < n.length), w.cell? ⟨g, o + j * 3, none⟩ = some (.bool n[j].fin) ∧ (∃ va, w.cell? ⟨g, o + j * 3 + 1, none⟩ = some va ∧ ArcS F w va n[j].arcs) ∧ ∃ vf, w.cell? ⟨g, o + j * 3 + 2, none⟩ = some vf ∧ NumS F w vf n[j].free)
theorem LoS.keep {F : Nat → Prop} {w w' : World} {v : Value} {d : List Au.Lo} (h : LoS F w v d) (hs : w.heap.size ≤ w'.heap.size) (e : ∀ g, F g → g < w.heap.size → w'.heap[g]? = w.heap[g]?) : LoS F w' v d := by
  obtain ⟨a, cap, h1, h2, h3, h4⟩ := h
  refine ⟨a, cap, h1, h2, h3, fun h0 => ?_⟩
  obtain ⟨g, o, h5, h6, h7, h8⟩ := h4 h0
  have hb := e g h7 h6
  refine ⟨g, o, h5, Nat.lt_of_lt_of_le h6 hs, h7, fun j hj => ?_⟩
  obtain ⟨a1, ⟨va, a2, a3⟩, vf, a4, a5⟩ := h8 j hj
  exact ⟨(cell_same hb).trans a1, ⟨va, (cell_same hb).trans a2, a3.keep hs e⟩, vf, (cell_same hb).trans a4, a5.keep hs e⟩
theorem StS.below {F : Nat → Prop} {w w' : World} {v : Value} {d : List Au.St} (h : StS F w v d) (hb : Below w.heap.size w w') : StS F w' v d := h.keep hb.size fun g _ hg => hb.block g hg
theorem LoS.below {F : Nat → Prop} {w w' : World} {v : Value} {d : List Au.Lo} (h : LoS F w v d) (hb : Below w.heap.size w w') : LoS F w' v d := h.keep hb.size fun g _ hg => hb.block g hg
theorem ArcS.below {F : Nat → Prop} {w w' : World} {v : Value} {l : List Au.Arc} (h : ArcS F w v l) (hb : Below w.heap.size w w') : ArcS F w' v l := h.keep hb.size fun g _ hg => hb.block g hg
theorem NumS.below {F : Nat → Prop} {w w' : World} {v : Value} {l : List Int} (h : NumS F w v l) (hb : Below w.heap.size w w') : NumS F w' v l := h.keep hb.size fun g _ hg => hb.block g hg

namespace Au
/-- Where a byte leads, as 8.1 tells it: -1 to none. -/
def step (d : List St) (s c : Int) : Int := if s < 0 ∨ (d.length : Int) ≤ s then -1 else match d[s.toNat]? with
  | some a => (look a.arcs c).getD (-1)
  | none => -1
end Au
end Go.Proofs.YthhfmcikfdagiaaDoor

/-
  Slices of bools in memory, wherever they lie or the call's own; append onto them.
-/
namespace Go.Proofs.YthhfmcikfdagiaaDoor
open Go.RowKit

theorem Tryd.infoBo : (Tryd.prog.info? 4).map (fun i => (i.zero, i.size, i.bytes)) = some (some (.bool false), 1, 1) := by kernel_rfl

/-- Numbers as cells. -/
def boolsV (l : List Bool) : List Value := l.map (fun c => .bool c)

theorem boolsV_snoc (l : List Bool) (c : Bool) : boolsV l ++ [.bool c] = boolsV (l ++ [c]) := by simp [boolsV]

end Go.Proofs.YthhfmcikfdagiaaDoor

/-
  The given dead: from which states nothing is taken.
-/
namespace Go.Proofs.YthhfmcikfdagiaaDoor
open Go.RowKit
namespace Au
theorem look_own {n : Nat} {c : Int} {l : List Arc} (h : Row n c l) (k : Nat) (hk : k < l.length) : look l l[k].lo = some l[k].to := by
  induction l generalizing k with
  | nil => simp at hk
  | cons a r ih =>
    have ht : Row n c r := ⟨fun j hj => by have := h.1 (j + 1) (by simp; omega); simpa using this, fun j hj => by have := h.2 (j + 1) (by simp; omega); simpa using this⟩
    cases k with
    | zero =>
      have := h.1 0 (by simp)
      simp only [List.getElem_cons_zero] at this ⊢
      simp only [look]
      rw [if_pos (by omega)]
    | succ k =>
      have hk' : k < r.length := by simpa using hk
      simp only [List.getElem_cons_succ]
      have hlt : a.hi < r[k].lo := by
        have hrow : Row n c (a :: r) := h
        -- arcs rise
        have rise : ∀ j (hj : j < r.length), a.hi < r[j].lo := by
          intro j
          induction j with
          | zero => intro hj; have := h.2 0 (by simp; omega); simpa using this
          | succ j ihj =>
            intro hj
            have h1 := ihj (by omega)
            have h2 := h.2 (j + 1) (by simp; omega)
            have h3 := h.1 (j + 1) (by simp; omega)
            simp only [List.getElem_cons_succ] at h2 h3
            omega
        exact rise k hk'
      simp only [look]
      rw [if_neg (by omega)]
      exact ih ht k hk'
theorem look_mem {l : List Arc} {x t : Int} (h : look l x = some t) : ∃ k, ∃ hk : k < l.length, l[k].to = t := by
  induction l with
  | nil => cases h
  | cons a r ih =>
    simp only [look] at h
    split at h
    · cases h; exact ⟨0, by simp, rfl⟩
    · obtain ⟨k, hk, e⟩ := ih h
      exact ⟨k + 1, by simp; omega, by simpa using e⟩
end Au

end Go.Proofs.YthhfmcikfdagiaaDoor

/-
  The given Step.
-/
namespace Go.Proofs.YthhfmcikfdagiaaDoor
open Go.RowKit

theorem Au.look_drop (l : List Au.Arc) (k : Nat) (hk : k < l.length) (c : Int) : Au.look (l.drop k) c = if l[k].lo ≤ c ∧ c ≤ l[k].hi then some l[k].to else Au.look (l.drop (k + 1)) c := by
  rw [List.drop_eq_getElem_cons hk]
  rfl

end Go.Proofs.YthhfmcikfdagiaaDoor

/-
  The given Check.
-/
namespace Go.Proofs.YthhfmcikfdagiaaDoor
open Go.RowKit
namespace Au
/-- Is arc k of a row as 8.1 asks? -/
def okArc (n : Nat) (l : List Arc) (k : Nat) : Prop := ∀ h : k < l.length, 0 ≤ l[k].lo ∧ l[k].hi ≤ 255 ∧ l[k].lo ≤ l[k].hi ∧ 0 ≤ l[k].to ∧ l[k].to < n ∧ (0 < k → l[k - 1].hi < l[k].lo)
/-- Are all arcs of a state? -/
def okAt (n : Nat) (d : List St) (i : Nat) : Prop := ∀ s, d[i]? = some s → ∀ k, okArc n s.arcs k
open Classical in
/-- What 8.1 answers of a list of states. -/
noncomputable def check (d : List St) : Int := if d.length = 0 then 1 else if 20000 < d.length then 8 else if ∀ i, i < d.length → okAt d.length d i then 0 else 3
theorem okAt_of {n : Nat} {d : List St} {i : Nat} (h : i < d.length) : okAt n d i ↔ ∀ k, okArc n d[i].arcs k := by
  constructor
  · intro g k
    exact g d[i] (List.getElem?_eq_getElem h) k
  · intro g s hs k
    rw [List.getElem?_eq_getElem h] at hs
    cases hs
    exact g k
theorem row_iff (n : Nat) (l : List Arc) : (∀ k, okArc n l k) ↔ Row n 256 l := by
  constructor
  · intro h
    refine ⟨fun k hk => ?_, fun k hk => ?_⟩
    · have := h k hk
      omega
    · have := (h (k + 1) hk).2.2.2.2.2 (by omega)
      simpa using this
  · intro h k hk
    have h1 := h.1 k hk
    refine ⟨by omega, by omega, by omega, by omega, by omega, fun h0 => ?_⟩
    have := h.2 (k - 1) (by omega)
    simp only [show k - 1 + 1 = k by omega] at this
    exact this
theorem check_iff (d : List St) : check d = 0 ↔ Fits d := by
  unfold check
  split
  · rename_i h
    constructor
    · intro e; exact absurd e (by decide)
    · intro f; have := f.pos; omega
  · split
    · rename_i h
      constructor
      · intro e; exact absurd e (by decide)
      · intro f; have := f.top; omega
    · split
      · rename_i h0 h1 h
        exact ⟨fun _ => ⟨by omega, by omega, fun i hi => (row_iff _ _).1 ((okAt_of hi).1 (h i hi))⟩, fun _ => rfl⟩
      · rename_i h0 h1 h
        constructor
        · intro e; exact absurd e (by decide)
        · intro f; exact absurd (fun i hi => (okAt_of hi).2 ((row_iff _ _).2 (f.row i hi))) h
end Au

end Go.Proofs.YthhfmcikfdagiaaDoor

/-
  The given Accepts.
-/
namespace Go.Proofs.YthhfmcikfdagiaaDoor
open Go.RowKit
namespace Au
/-- A state, or -1 for none. -/
def code : Option Nat → Int
  | none => -1
  | some k => k
open Classical in
/-- Is a text taken? -/
noncomputable def takesL (d : List St) (s : List UInt8) : Bool := decide (Fits d) && (ofL d).acc (some 0) (s.map UInt8.toNat)
theorem step_code {d : List St} (h : Fits d) (x : Option Nat) (c : Nat) : step d (code x) c = code (x.bind fun k => (ofL d).step k c) := by
  cases x with
  | none => simp [step, code]
  | some k =>
    simp only [code, Option.bind_some]
    unfold step
    by_cases hk : k < d.length
    · rw [if_neg (by omega), Int.toNat_natCast, List.getElem?_eq_getElem hk]
      simp only [ofL, List.getElem?_eq_getElem hk]
      cases hl : look d[k].arcs (c : Int) with
      | none => rfl
      | some t =>
        have := look_in (n := d.length) (fun j hj => by have := (h.row k hk).1 j hj; omega) hl
        simp only [Option.map_some, Option.getD_some]
        change t = ((t.toNat : Nat) : Int)
        omega
    · rw [if_pos (by omega)]
      simp only [ofL, List.getElem?_eq_none (by omega : d.length ≤ k)]
theorem acc_step {σ : Type} (A : Auto σ) (x : Option σ) (c : Nat) (w : List Nat) : A.acc x (c :: w) = A.acc (x.bind fun k => A.step k c) w := by
  cases x with
  | none => simp [acc_none]
  | some k => rfl
end Au

end Go.Proofs.YthhfmcikfdagiaaDoor

/-
  Lists of the call's own: of states' numbers, of arcs, of states; append onto them; what else stays.
-/
namespace Go.Proofs.YthhfmcikfdagiaaDoor
open Go.RowKit

theorem heap_other (w : World) (b i k : Nat) (v : Value) (h : k ≠ b) : (w.setCell ⟨b, i, none⟩ v).heap[k]? = w.heap[k]? :=
  Below.heap_setCell _ _ _ _ (by first | exact h | exact fun e => h e.symm | exact fun e => h e)
/-- Nothing but what F says has turned of what lay there. -/
structure KeptF (F : Nat → Prop) (w w' : World) : Prop where
  os : w'.os = w.os
  tape : w'.tape = w.tape
  output : w'.output = w.output
  size : w.heap.size ≤ w'.heap.size
  block : ∀ k, k < w.heap.size → ¬ F k → w'.heap[k]? = w.heap[k]?
theorem KeptF.refl (F : Nat → Prop) (w : World) : KeptF F w w := ⟨rfl, rfl, rfl, Nat.le_refl _, fun _ _ _ => rfl⟩
theorem KeptF.trans {F : Nat → Prop} {w w' w'' : World} (h : KeptF F w w') (k : KeptF F w' w'') : KeptF F w w'' :=
  ⟨k.os.trans h.os, k.tape.trans h.tape, k.output.trans h.output, Nat.le_trans h.size k.size, fun i hi hf => (k.block i (Nat.lt_of_lt_of_le hi h.size) hf).trans (h.block i hi hf)⟩
theorem KeptF.of_below {F : Nat → Prop} {w w' : World} (h : Below w.heap.size w w') : KeptF F w w' := ⟨h.os, h.tape, h.output, h.size, fun k hk _ => h.block k hk⟩
theorem KeptF.set {F : Nat → Prop} {w w' : World} (h : KeptF F w w') (b i : Nat) (hb : F b) (v : Value) : KeptF F w (w'.setCell ⟨b, i, none⟩ v) :=
  h.trans ⟨rfl, rfl, rfl, by simp [World.setCell], fun k _ hk => heap_other _ _ _ _ _ (fun e => hk (e ▸ hb))⟩
theorem KeptF.drew {F : Nat → Prop} {w w' : World} (h : KeptF F w w') : KeptF F w w'.drew := h.trans ⟨rfl, rfl, rfl, Nat.le_refl _, fun _ _ _ => rfl⟩
theorem KeptF.below {F : Nat → Prop} {B : Nat} {w0 w w' : World} (h : Below B w0 w) (k : KeptF F w w') (hF : ∀ k, F k → B ≤ k) (hB : B ≤ w.heap.size) : Below B w0 w' :=
  h.trans ⟨k.os, k.tape, k.output, k.size, fun i hi => k.block i (by omega) (fun hf => by have := hF i hf; omega)⟩

/-- A list that lies where nothing has turned. -/
theorem ownsRow_keep {w w' : World} {B : Nat} {t : TypeId} {z : Nat} {v : Value} {n : Nat} {xs : List Value} (h : w.ownsRow B t z v n xs) (e : ∀ k, v.ownBlock = some k → w'.heap[k]? = w.heap[k]?) : w'.ownsRow B t z v n xs := by
  refine ⟨h.1, ?_⟩
  rcases h.2 with h1 | ⟨g, cap, cur, rfl, hg, hh, hr⟩
  · exact .inl h1
  · exact .inr ⟨g, cap, cur, rfl, hg, (e g rfl).trans hh, hr⟩
theorem ownsRow_base {w : World} {B C : Nat} {t : TypeId} {z : Nat} {v : Value} {n : Nat} {xs : List Value} (h : w.ownsRow B t z v n xs) (hC : C ≤ B) : w.ownsRow C t z v n xs := by
  refine ⟨h.1, ?_⟩
  rcases h.2 with h1 | ⟨g, cap, cur, rfl, hg, hh, hr⟩
  · exact .inl h1
  · exact .inr ⟨g, cap, cur, rfl, Nat.le_trans hC hg, hh, hr⟩
section
variable {P : Program} (w : World)
/-- append onto an own row: in place, and nothing else turns; or into a new block, and nothing old turns at all. -/
theorem run_append_two (base : Nat) (t ty e : TypeId) (i : TypeInfo) (z : Value) (size bytes : Nat) (ht : P.underlying t = some (.slice e)) (hi : P.info? e = some i) (hz : i.zero = some z)
    (hsize : i.size = size) (hby : i.bytes = bytes) (hzs : z.cells.size = size) (hsz : 0 < size)
    (v : Value) (n : Nat) (xs : List Value) (hown : w.ownsRow base e size v n xs)
    (a : Addr) (m c : Nat) (news : List Value) (hl : news.length = m * size) (hnews : ∀ j u, news[j]? = some u → w.cell? (a.add j) = some u) (h1 : ∀ u ∈ news, u.oneCell' = true)
    (h63 : n + m ≤ maxLen) (hbytes : (n + m) * bytes ≤ 140737488355328) (hbase : base ≤ w.heap.size) :
    ∃ v' w', (Builtin.append_ #[t, t] ty #[v, .slice (some a) m c]).run P w = .ok v' w' ∧ w'.ownsRow base e size v' (n + m) (xs ++ news) ∧
      ((v'.ownBlock = v.ownBlock ∧ w.grownBy w' v.ownBlock) ∨ ((∀ b, v'.ownBlock = some b → w.heap.size ≤ b) ∧ w.grownBy w' none)) := by
  obtain ⟨v', w', hr, h2, h3, _, h5⟩ := run_append_own_at (P := P) w base t ty e i z size bytes ht hi hz hsize hby hzs hsz v n xs hown a m c news hl hnews h1 h63 hbytes hbase
  rcases hown.2 with ⟨rfl, rfl⟩ | ⟨g, cap, cur, rfl, hbg, hg, hnc, hcm, hcs, htake⟩
  · refine ⟨v', w', hr, h2, .inr ⟨fun b hb => ?_, h3⟩⟩
    rcases h5 with h5 | h5
    · rw [h5] at hb; cases hb
    · rw [h5] at hb; cases hb; exact Nat.le_refl _
  · by_cases hroom : n + m ≤ cap
    · have hfit : n * i.size + news.length ≤ cur.size := by rw [hl, hcs, hsize, ← Nat.add_mul]; exact Nat.mul_le_mul_right _ hroom
      have hr2 := run_append_room (P := P) w t ty e i ht hi g n cap cur hg a m c news (by rw [hsize]; exact hl) hnews h1 hroom hfit
      rw [hr] at hr2
      injection hr2 with e1 e2
      exact ⟨v', w', hr, h2, .inl ⟨by rw [e1]; rfl, h3⟩⟩
    · have holds : ∀ j u, xs[j]? = some u → w.cell? ((⟨g, 0, none⟩ : Addr).add j) = some u := hown.cells (g := g) rfl
      obtain ⟨v2, w2, hr2, h6, h7⟩ := run_append_arg_grows (P := P) w t ty e i z size bytes ht hi hz hsize hby hzs hsz ⟨g, 0, none⟩ n cap xs hown.1 holds a m c news hl hnews (by omega) h63 hbytes
      exact ⟨v2, w2, hr2, ownsRow_base h6 hbase, .inr ⟨fun b hb => (h6.lt b hb).1, h7⟩⟩
theorem wpList_append_two {ops : Array Oper} {rest : List Oper} {o : Oper} {a : Act} {Q : Exit → Act → World → Prop} (hgd : o.guard = none) (s x : Operand) (t : TypeId)
    (ho : o.op = .call { callee := .builtin .append, args := #[s, x], argTypes := #[t, t] })
    (base : Nat) (e : TypeId) (i : TypeInfo) (z : Value) (size bytes : Nat) (ht : P.underlying t = some (.slice e)) (hi : P.info? e = some i) (hz : i.zero = some z)
    (hsize : i.size = size) (hby : i.bytes = bytes) (hzs : z.cells.size = size) (hsz : 0 < size)
    (v : Value) (n : Nat) (xs : List Value) (hs : a.eval s = v) (hown : w.ownsRow base e size v n xs)
    (ad : Addr) (m c : Nat) (news : List Value) (hx : a.eval x = .slice (some ad) m c) (hl : news.length = m * size) (hnews : ∀ j u, news[j]? = some u → w.cell? (ad.add j) = some u) (h1 : ∀ u ∈ news, u.oneCell' = true)
    (h63 : n + m ≤ maxLen) (hbytes : (n + m) * bytes ≤ 140737488355328) (hbase : base ≤ w.heap.size)
    (h : ∀ v' w', w'.ownsRow base e size v' (n + m) (xs ++ news) → ((v'.ownBlock = v.ownBlock ∧ w.grownBy w' v.ownBlock) ∨ ((∀ b, v'.ownBlock = some b → w.heap.size ≤ b) ∧ w.grownBy w' none)) → wpList P ops Q rest (a.put o.dst v') w') :
    wpList P ops Q (o :: rest) a w := by
  refine wpList_plain hgd fun K hK => ?_
  obtain ⟨v', w', hr, h2, h3⟩ := run_append_two (P := P) w base t o.type e i z size bytes ht hi hz hsize hby hzs hsz v n xs hown ad m c news hl hnews h1 h63 hbytes hbase
  unfold Oper.wp execOp
  simp only [ho, resolve, invoke, builtin, Sem.run_bind, Sem.run_pure, Result.andThen_ok, List.map_toArray, List.map_cons, List.map_nil, hs, hx, hr]
  exact hK _ _ (h v' w' h2 h3)
end

namespace Ap
/-- What an append may have done: in place, or in a new block. -/
def Two (w w' : World) (v v' : Value) : Prop := (v'.ownBlock = v.ownBlock ∧ w.grownBy w' v.ownBlock) ∨ ((∀ b, v'.ownBlock = some b → w.heap.size ≤ b) ∧ w.grownBy w' none)
theorem Two.far {w w' : World} {v v' : Value} (h : Two w w' v v') {k : Nat} (hk : k < w.heap.size) (hv : v.ownBlock ≠ some k) : w'.heap[k]? = w.heap[k]? := by
  rcases h with ⟨_, h⟩ | ⟨_, h⟩
  · exact h.block k hk (fun e => hv e.symm)
  · exact h.block k hk (fun e => by cases e)
theorem Two.at {w w' : World} {v v' : Value} (h : Two w w' v v') {b : Nat} (hb : v'.ownBlock = some b) : v.ownBlock = some b ∨ w.heap.size ≤ b := by
  rcases h with ⟨h, _⟩ | ⟨h, _⟩
  · exact .inl (h ▸ hb)
  · exact .inr (h b hb)
theorem Two.size {w w' : World} {v v' : Value} (h : Two w w' v v') : w.heap.size ≤ w'.heap.size := by
  rcases h with ⟨_, h⟩ | ⟨_, h⟩ <;> exact h.size
theorem Two.rest {w w' : World} {v v' : Value} (h : Two w w' v v') : w'.os = w.os ∧ w'.tape = w.tape ∧ w'.output = w.output := by
  rcases h with ⟨_, h⟩ | ⟨_, h⟩ <;> exact ⟨h.os, h.tape, h.output⟩
theorem Two.drop {w w' : World} {v v' : Value} {o : Obj} (h : Two (w.alloc o) w' v v') : Two w w' v v' := by
  rcases h with ⟨h1, h⟩ | ⟨h1, h⟩
  · exact .inl ⟨h1, h.os, h.tape, h.output, Nat.le_trans (by simp) h.size, fun k hk hv => (h.block k (by simp; omega) hv).trans (Go.Deep.blk_alloc_lt w _ _ hk)⟩
  · exact .inr ⟨fun b hb => Nat.le_trans (by simp) (h1 b hb), h.os, h.tape, h.output, Nat.le_trans (by simp) h.size, fun k hk hv => (h.block k (by simp; omega) hv).trans (Go.Deep.blk_alloc_lt w _ _ hk)⟩
end Ap
theorem Tryd.infoN : (Tryd.prog.info? 3).map (fun i => (i.zero, i.size, i.bytes)) = some (some (.int .i64 0), 1, 8) := by kernel_rfl

/-- Numbers as cells. -/
def natsV (l : List Nat) : List Value := l.map (fun (c : Nat) => .int .i64 (c : Int))

theorem natsV_snoc (l : List Nat) (c : Nat) : natsV l ++ [.int .i64 c] = natsV (l ++ [c]) := by simp [natsV]

/-- Arcs as cells. -/
def arcsV (l : List Au.Arc) : List Value := l.flatMap fun x => [.int .i64 x.lo, .int .i64 x.hi, .int .i64 x.to]
theorem arcsV_length (l : List Au.Arc) : (arcsV l).length = l.length * 3 := by
  induction l with
  | nil => rfl
  | cons x t ih =>
    show (_ :: _ :: _ :: arcsV t).length = _
    simp only [List.length_cons, ih]
    omega
theorem arcsV_snoc (l : List Au.Arc) (x : Au.Arc) : arcsV l ++ [.int .i64 x.lo, .int .i64 x.hi, .int .i64 x.to] = arcsV (l ++ [x]) := by simp [arcsV]
theorem arcsV_at (l : List Au.Arc) : ∀ i (h : i < l.length), (arcsV l)[i * 3]? = some (.int .i64 l[i].lo) ∧ (arcsV l)[i * 3 + 1]? = some (.int .i64 l[i].hi) ∧ (arcsV l)[i * 3 + 2]? = some (.int .i64 l[i].to) := by
  induction l with
  | nil => intro i h; cases h
  | cons x t ih =>
    intro i h
    cases i with
    | zero => exact ⟨rfl, rfl, rfl⟩
    | succ i =>
      simp only [List.length_cons, Nat.add_lt_add_iff_right] at h
      have e : (i + 1) * 3 = i * 3 + 1 + 1 + 1 := by omega
      rw [e]
      exact ih i h
theorem Tryd.infoA : (Tryd.prog.info? 63).map (fun i => (i.zero, i.size, i.bytes)) = some (some (.agg #[.int .i64 0, .int .i64 0, .int .i64 0]), 3, 24) := by kernel_rfl
/-- The slice v is the call's own, from block B on, and holds these arcs. -/
def OwnA (w : World) (B : Nat) (v : Value) (l : List Au.Arc) : Prop := w.ownsRow B 63 3 v l.length (arcsV l)
theorem OwnA.opened {w : World} {B : Nat} {v : Value} {l : List Au.Arc} (h : OwnA w B v l) : ∃ a cap, v = .slice a l.length cap ∧ l.length ≤ cap ∧ cap ≤ 9223372036854775807 ∧ (0 < l.length → ∃ g, a = some ⟨g, 0, none⟩ ∧ B ≤ g ∧ g < w.heap.size ∧ (∀ j, w.frozen? ⟨g, j, none⟩ = false) ∧
    ∀ j (_ : j < l.length), w.cell? ⟨g, j * 3, none⟩ = some (.int .i64 l[j].lo) ∧ w.cell? ⟨g, j * 3 + 1, none⟩ = some (.int .i64 l[j].hi) ∧ w.cell? ⟨g, j * 3 + 2, none⟩ = some (.int .i64 l[j].to)) := by
  rcases h.2 with ⟨rfl, h0⟩ | ⟨g, cap, cur, rfl, hg, hh, hnc, hcp, hcs, htake⟩
  · exact ⟨none, 0, by rw [h0], by omega, by omega, fun h => by omega⟩
  · have hown : w.ownsRow B 63 3 (.slice (some ⟨g, 0, none⟩) l.length cap) l.length (arcsV l) := h
    refine ⟨_, cap, rfl, hnc, by unfold maxLen at hcp; omega, fun _ => ⟨g, rfl, hg, (hown.lt g rfl).2, fun j => by simp [World.frozen?, hh], fun j hj => ?_⟩⟩
    obtain ⟨a1, a2, a3⟩ := arcsV_at l j hj
    exact ⟨(hown.cellAt _ (by omega)).trans a1, (hown.cellAt _ (by omega)).trans a2, (hown.cellAt _ (by omega)).trans a3⟩
theorem OwnA.arcs {w : World} {B : Nat} {v : Value} {l : List Au.Arc} (h : OwnA w B v l) (F : Nat → Prop) (hF : ∀ g, B ≤ g → F g) : ArcS F w v l := by
  obtain ⟨a, cap, h1, h2, h3, h4⟩ := h.opened
  refine ⟨a, cap, h1, h2, h3, fun h0 => ?_⟩
  obtain ⟨g, h5, h6, h7, _, h8⟩ := h4 h0
  exact ⟨g, 0, h5, h7, hF g h6, fun j hj => by simpa using h8 j hj⟩
theorem OwnA.keep {w w' : World} {B : Nat} {v : Value} {l : List Au.Arc} (h : OwnA w B v l) (e : ∀ k, v.ownBlock = some k → w'.heap[k]? = w.heap[k]?) : OwnA w' B v l := ownsRow_keep h e
theorem OwnA.lt {w : World} {B : Nat} {v : Value} {l : List Au.Arc} (h : OwnA w B v l) : ∀ k, v.ownBlock = some k → B ≤ k ∧ k < w.heap.size := World.ownsRow.lt h
theorem OwnA.nil0 (w : World) (B : Nat) : OwnA w B (.slice none 0 0) [] := World.ownsRow_nil w B _ _
theorem OwnA.kind {w : World} {B : Nat} {v : Value} {l : List Au.Arc} (h : OwnA w B v l) : ∀ g, v.ownBlock = some g → ∃ c fz, w.heap[g]? = some (.cells c 63 fz) := by
  intro g hv
  rcases h.2 with ⟨h1, _⟩ | ⟨g', cap, cur, h1, hg, hh, _⟩
  · rw [h1] at hv; cases hv
  · rw [h1] at hv
    obtain rfl : g' = g := by simpa [Value.ownBlock] using hv
    exact ⟨_, _, hh⟩
/-- The last arc goes on. -/
theorem OwnA.last {w : World} {B : Nat} {g cap : Nat} {r : List Au.Arc} {x : Au.Arc} {n : Nat} (h : OwnA w B (.slice (some ⟨g, 0, none⟩) n cap) (r ++ [x])) (hn : n = r.length + 1) (c : Int) : OwnA (w.setCell ⟨g, r.length * 3 + 1, none⟩ (.int .i64 c)) B (.slice (some ⟨g, 0, none⟩) n cap) (r ++ [⟨x.lo, c, x.to⟩]) ∧ w.grownBy (w.setCell ⟨g, r.length * 3 + 1, none⟩ (.int .i64 c)) (some g) := by
  have hl : (r ++ [x]).length = n := by simp [hn]
  have hl2 : (r ++ [(⟨x.lo, c, x.to⟩ : Au.Arc)]).length = n := by simp [hn]
  unfold OwnA at h ⊢
  rw [hl] at h
  rw [hl2]
  have hs := h.stored (r.length * 3 + 1) (.int .i64 c)
  have he : (arcsV (r ++ [x])).set (r.length * 3 + 1) (.int .i64 c) = arcsV (r ++ [(⟨x.lo, c, x.to⟩ : Au.Arc)]) := by
    rw [← arcsV_snoc, ← arcsV_snoc, List.set_append_right _ _ (by rw [arcsV_length]; omega), arcsV_length, show r.length * 3 + 1 - r.length * 3 = 1 by omega]
    rfl
  rw [he] at hs
  exact hs
theorem new_arc (w : World) (a b c : Int) : ∀ j u, [Value.int .i64 a, .int .i64 b, .int .i64 c][j]? = some u → (w.alloc (.cells #[.int .i64 a, .int .i64 b, .int .i64 c] 63)).cell? ((⟨w.heap.size, 0, none⟩ : Addr).add j) = some u := by
  intro j u hj
  match j, hj with
  | 0, hj => simp at hj; subst hj; simp [Addr.add]
  | 1, hj => simp at hj; subst hj; simp [Addr.add]
  | 2, hj => simp at hj; subst hj; simp [Addr.add]
theorem one_arc (a b c : Int) : ∀ u ∈ [Value.int .i64 a, .int .i64 b, .int .i64 c], u.oneCell' = true := by
  intro u hu
  simp only [List.mem_cons, List.mem_nil_iff, or_false] at hu
  rcases hu with rfl | rfl | rfl <;> rfl
/-- 'append(v, Arc)' of one arc, which lies in a new block. -/
theorem wpList_pushA {ops : Array Oper} {rest : List Oper} {o : Oper} {a : Act} {Q : Exit → Act → World → Prop} {w : World} (hgd : o.guard = none) (s x : Operand)
    (ho : o.op = .call { callee := .builtin .append, args := #[s, x], argTypes := #[40, 40] })
    (B : Nat) (hB : B ≤ w.heap.size) (v : Value) (l : List Au.Arc) (p q r : Int) (hs : a.eval s = v) (h : OwnA w B v l) (hx : a.eval x = .slice (some ⟨w.heap.size, 0, none⟩) 1 1)
    (hb : l.length + 1 ≤ 1099511627776)
    (hk : ∀ v' w', OwnA w' B v' (l ++ [⟨p, q, r⟩]) → Ap.Two w w' v v' → wpList Tryd.prog ops Q rest (a.put o.dst v') w') :
    wpList Tryd.prog ops Q (o :: rest) a (w.alloc (.cells #[.int .i64 p, .int .i64 q, .int .i64 r] 63)) := by
  obtain ⟨ii, hi, hz0, hz1, hz2⟩ := info_parts Tryd.infoA
  have hown : w.ownsRow B 63 3 v l.length (arcsV l) := h
  refine wpList_append_two _ hgd s x 40 ho B 63 ii _ 3 24 Tryd.underlying40 hi hz0 hz1 hz2 rfl (by decide) _ _ _ hs (hown.alloc _) ⟨w.heap.size, 0, none⟩ 1 1 [.int .i64 p, .int .i64 q, .int .i64 r] hx rfl (new_arc w p q r) (one_arc p q r) (by unfold maxLen; omega) (by omega) (by simp; omega) ?_
  intro v' w' h1 h2
  refine hk v' w' ?_ (Ap.Two.drop h2)
  unfold OwnA
  rw [arcsV_snoc l ⟨p, q, r⟩] at h1
  simpa using h1
/-- States as cells: is it final, its arcs' slice. -/
def stsV (l : List (Bool × Value)) : List Value := l.flatMap fun x => [.bool x.1, x.2]
theorem stsV_snoc (l : List (Bool × Value)) (x : Bool × Value) : stsV l ++ [.bool x.1, x.2] = stsV (l ++ [x]) := by simp [stsV]
theorem stsV_at (l : List (Bool × Value)) : ∀ i (h : i < l.length), (stsV l)[i * 2]? = some (.bool l[i].1) ∧ (stsV l)[i * 2 + 1]? = some l[i].2 := by
  induction l with
  | nil => intro i h; cases h
  | cons x t ih =>
    intro i h
    cases i with
    | zero => exact ⟨rfl, rfl⟩
    | succ i =>
      simp only [List.length_cons, Nat.add_lt_add_iff_right] at h
      have e : (i + 1) * 2 = i * 2 + 1 + 1 := by omega
      rw [e]
      exact ih i h
theorem Tryd.infoSt : (Tryd.prog.info? 42).map (fun i => (i.zero, i.size, i.bytes)) = some (some (.agg #[.bool false, .slice none 0 0]), 2, 32) := by kernel_rfl
end Go.Proofs.YthhfmcikfdagiaaDoor

/-
  The given Least: the walk.
-/
namespace Go.Proofs.YthhfmcikfdagiaaDoor
open Go.RowKit
namespace Au
theorem least_dead {d : List St} (hf : Fits d) (h : Dead (ofL d) (some 0)) : least d = [⟨false, []⟩] := by
  have hgo : ∀ c, (ofL d).walk.go 0 c = none := fun c => go_dead fun w => h (c :: w)
  have hb : ∀ c, (ofL d).walk.bytes 0 [0] c = ([0], []) := by
    intro c
    induction c with
    | zero => rfl
    | succ c ih =>
      rw [Walk.bytes, ih]
      unfold Walk.byte
      rw [hgo c]
  have hfin : (ofL d).walk.fin 0 = false := h []
  have h1 : (ofL d).walk.states 0 1 = ([0], [⟨false, []⟩]) := by
    simp only [Walk.states, List.getElem?_cons_zero, hb, hfin, List.nil_append]
  have hd : (ofL d).walk.Done 0 1 := by
    unfold Walk.Done Walk.met
    rw [h1]
    exact Nat.le_refl _
  have := done_same (ofL d).walk 0 d.length 1 (least_done hf.pos hf.row) hd
  unfold least Walk.out
  rw [this, h1]
end Au
end Go.Proofs.YthhfmcikfdagiaaDoor

/-
  The given May and Takes.
-/
namespace Go.Proofs.YthhfmcikfdagiaaDoor
open Go.RowKit
namespace Au
open Classical in
noncomputable def may (d : List Lo) : Bool := decide (May d)
theorem may_true (d : List Lo) : may d = true ↔ May d := by simp [may]
end Au

end Go.Proofs.YthhfmcikfdagiaaDoor

/-
  Sets that a call has met, in memory; the rest of what it holds stays.
-/
namespace Go.Proofs.YthhfmcikfdagiaaDoor
open Go.RowKit

namespace Au
/-- What Tight answers: its refusal, its states. -/
noncomputable def tightE (d : List Lo) (most : Int) : Int := if may d = true then (match tight d most with | none => 8 | some _ => 0) else 3
noncomputable def tightL (d : List Lo) (most : Int) : List St := if may d = true then (match tight d most with | none => [] | some a => a) else []
theorem tight_out_bad {d : List Lo} {most : Int} (h : ¬ may d = true) : tightE d most = 3 ∧ tightL d most = [] := ⟨by unfold tightE; rw [if_neg h], by unfold tightL; rw [if_neg h]⟩
theorem tight_out_none {d : List Lo} {most : Int} (h : may d = true) (h2 : tight d most = none) : tightE d most = 8 ∧ tightL d most = [] := ⟨by unfold tightE; rw [if_pos h, h2], by unfold tightL; rw [if_pos h, h2]⟩
theorem tight_out_some {d : List Lo} {most : Int} {a : List St} (h : may d = true) (h2 : tight d most = some a) : tightE d most = 0 ∧ tightL d most = a := ⟨by unfold tightE; rw [if_pos h, h2], by unfold tightL; rw [if_pos h, h2]⟩
theorem tight_outs {d : List Lo} {most : Int} (h : may d = true) : (tight d most = none → tightE d most = 8 ∧ tightL d most = []) ∧ (∀ a, tight d most = some a → tightE d most = 0 ∧ tightL d most = a) := by
  constructor
  · intro h2
    exact tight_out_none h h2
  · intro a h2
    exact tight_out_some h h2
end Au
end Go.Proofs.YthhfmcikfdagiaaDoor

/-
  Maps of the call's own, of any keys and any elements; lists of the call's own, each in a block of its own colour.
-/
namespace Go.Proofs.YthhfmcikfdagiaaDoor
open Go.RowKit Go.Maps

/-! ### maps -/
/-- An element reads as itself. -/
def rV (v : Value) : Option (DataW Value × List MemPlace) := some (.held v, [])
/-- Block b holds a map; F says what stands at which key. -/
def MapG (k : TypeId) (w : World) (b n : Nat) (F : Lit → Option Value) : Prop :=
  ∃ D : DataW Value, w.ownsMap Tryd.prog k rV b n D ∧ ∀ kl z, WideAt.IsKeyLit kl → has D kl = (F kl).isSome ∧ D.atKey kl (.held z) = .held ((F kl).getD z)
theorem MapG.lt {k : TypeId} {w : World} {b n : Nat} {F : Lit → Option Value} (h : MapG k w b n F) : b < w.heap.size := by
  obtain ⟨D, h, _⟩ := h
  exact h.lt
theorem MapG.keep {k : TypeId} {w w' : World} {b n : Nat} {F : Lit → Option Value} (h : MapG k w b n F) (e : w'.heap[b]? = w.heap[b]?) : MapG k w' b n F := by
  obtain ⟨D, ⟨es, clock, hb, hr⟩, hs⟩ := h
  exact ⟨D, ⟨es, clock, e.trans hb, hr⟩, hs⟩
theorem MapG.mono {k : TypeId} {w : World} {b n n' : Nat} {F : Lit → Option Value} (h : MapG k w b n F) (hn : n ≤ n') : MapG k w b n' F := by
  obtain ⟨D, h, hs⟩ := h
  exact ⟨D, h.mono hn, hs⟩
theorem mapG_made (k : TypeId) (w : World) : MapG k (w.alloc (.map #[] 0)) w.heap.size 0 (fun _ => none) := ⟨.map [], World.ownsMap_made w _ _ _, fun _ _ _ => ⟨rfl, rfl⟩⟩
open Classical in
noncomputable def updG (F : Lit → Option Value) (s : Lit) (o : Option Value) : Lit → Option Value := fun t => if t = s then o else F t
theorem updG_same (F : Lit → Option Value) (s : Lit) (o : Option Value) : updG F s o s = o := by unfold updG; rw [if_pos rfl]
theorem updG_other (F : Lit → Option Value) (s t : Lit) (o : Option Value) (h : t ≠ s) : updG F s o t = F t := by unfold updG; rw [if_neg h]

section
variable (w : World) {ops : Array Oper} {rest : List Oper} {o : Oper} {a : Act} {Q : Exit → Act → World → Prop}
/-- 'm[key]'. -/
theorem wpList_lookG (hg : o.guard = none) (m x : Operand) (t k e : TypeId) (hop : o.op = Op.lookup t m x false) (K : Keyed Tryd.prog k) (ht : Tryd.prog.underlying t = some (.map k e)) (z : Value) (hz : ∀ w, (zeroValue e).run Tryd.prog w = .ok z w)
    (b n : Nat) (F : Lit → Option Value) (hm : a.eval m = .map (some b)) (hM : MapG k w b n F) (key : Value) (kl : Lit) (hx : a.eval x = key) (hkey : keyOf Tryd.prog k key = some kl)
    (hK : wpList Tryd.prog ops Q rest (a.put o.dst ((F kl).getD z)) w) : wpList Tryd.prog ops Q (o :: rest) a w := by
  obtain ⟨D, hown, hF⟩ := hM
  refine wpList_plain hg fun K' hK' => ?_
  obtain ⟨v, ps, hrun, hv⟩ := hown.lookup K ht (hz w) (zd := .held z) (zp := []) rfl hkey
  have e : v = (F kl).getD z := by
    rw [(hF kl z (K.key hkey)).2] at hv
    unfold rV at hv
    simp only [Option.some.injEq, Prod.mk.injEq, DataW.held.injEq] at hv
    exact hv.1
  subst e
  unfold Oper.wp
  simp [execOp, hop, hm, hx, hrun, Result.andThen]
  exact hK' _ _ hK
/-- 'v, ok := m[key]'. -/
theorem wpList_lookOkG (hg : o.guard = none) (m x : Operand) (t k e : TypeId) (hop : o.op = Op.lookup t m x true) (K : Keyed Tryd.prog k) (ht : Tryd.prog.underlying t = some (.map k e)) (z : Value) (hz : ∀ w, (zeroValue e).run Tryd.prog w = .ok z w)
    (b n : Nat) (F : Lit → Option Value) (hm : a.eval m = .map (some b)) (hM : MapG k w b n F) (key : Value) (kl : Lit) (hx : a.eval x = key) (hkey : keyOf Tryd.prog k key = some kl)
    (hK : wpList Tryd.prog ops Q rest (a.put o.dst (.tuple #[(F kl).getD z, .bool (F kl).isSome])) w) : wpList Tryd.prog ops Q (o :: rest) a w := by
  obtain ⟨D, hown, hF⟩ := hM
  refine wpList_lookup_own_ok w hg m x t hop k e K ht rV (hz w) (.held z) [] rfl b n D hm hown key kl hx hkey fun v ps hv => ?_
  obtain ⟨h1, h2⟩ := hF kl z (K.key hkey)
  rw [h2] at hv
  unfold rV at hv
  simp only [Option.some.injEq, Prod.mk.injEq, DataW.held.injEq] at hv
  rw [hv.1, h1]
  exact hK
/-- 'm[key] = v'. -/
theorem wpList_storeG (hg : o.guard = none) (m x v : Operand) (t k e : TypeId) (hop : o.op = Op.mapUpdate t m x v) (K : Keyed Tryd.prog k) (ht : Tryd.prog.underlying t = some (.map k e))
    (b n : Nat) (F : Lit → Option Value) (hm : a.eval m = .map (some b)) (hM : MapG k w b n F) (hn : n < maxLen) (key : Value) (kl : Lit) (hx : a.eval x = key) (hkey : keyOf Tryd.prog k key = some kl) (u : Value) (hv : a.eval v = u)
    (hK : ∀ w', MapG k w' b (n + 1) (updG F kl (some u)) → w.grownBy w' (some b) → wpList Tryd.prog ops Q rest (a.put o.dst undef) w') : wpList Tryd.prog ops Q (o :: rest) a w := by
  obtain ⟨D, hown, hF⟩ := hM
  refine wpList_mapUpdate_own w hg m x v t hop k e K ht rV b n D hm hown hn key u kl hx hv hkey (.held u) [] rfl fun w' h1 h2 => ?_
  refine hK w' ⟨_, h1, fun l z hl => ?_⟩ h2
  by_cases e : l = kl
  · subst e
    rw [updG_same]
    exact ⟨has_put_same hown.isMap hl _, atKey_put_same hown.isMap hl _ _⟩
  · rw [updG_other _ _ _ _ e, has_put_other e, atKey_put_other e]
    exact hF l z hl
end

/-! ### colours -/
/-- Blocks from s on bear colour c, those below are as they were. -/
def paint (κ : Nat → Nat) (s c : Nat) : Nat → Nat := fun k => if k < s then κ k else c
/-- Nothing has turned but what bears colour c; and what is new bears it. -/
structure Step (κ : Nat → Nat) (c : Nat) (w w' : World) (κ' : Nat → Nat) : Prop where
  os : w'.os = w.os
  tape : w'.tape = w.tape
  output : w'.output = w.output
  size : w.heap.size ≤ w'.heap.size
  block : ∀ k, k < w.heap.size → κ k ≠ c → w'.heap[k]? = w.heap[k]?
  col : ∀ k, k < w.heap.size → κ' k = κ k
theorem Step.of_two {κ : Nat → Nat} {c : Nat} {w w' : World} {v v' : Value} (h : Ap.Two w w' v v') (hv : ∀ b, v.ownBlock = some b → κ b = c) : Step κ c w w' (paint κ w.heap.size c) := by
  obtain ⟨h1, h2, h3⟩ := h.rest
  exact ⟨h1, h2, h3, h.size, fun k hk hc => h.far hk fun e => hc (hv k e), fun k hk => by unfold paint; rw [if_pos hk]⟩
theorem Step.of_set {κ : Nat → Nat} {c : Nat} (w : World) (b i : Nat) (v : Value) (hb : κ b = c) : Step κ c w (w.setCell ⟨b, i, none⟩ v) κ :=
  ⟨rfl, rfl, rfl, by simp [World.setCell], fun k _ hc => heap_other _ _ _ _ _ (fun e => hc (e ▸ hb)), fun _ _ => rfl⟩
theorem Step.of_grown {κ : Nat → Nat} {c : Nat} {w w' : World} {b : Nat} (h : w.grownBy w' (some b)) (hb : κ b = c) : Step κ c w w' (paint κ w.heap.size c) :=
  ⟨h.os, h.tape, h.output, h.size, fun k hk hc => h.block k hk (fun e => hc (by cases e; exact hb)), fun k hk => by unfold paint; rw [if_pos hk]⟩
theorem Step.of_below {κ : Nat → Nat} {c : Nat} {w w' : World} (h : Below w.heap.size w w') : Step κ c w w' (paint κ w.heap.size c) :=
  ⟨h.os, h.tape, h.output, h.size, fun k hk _ => h.block k hk, fun k hk => by unfold paint; rw [if_pos hk]⟩
theorem Step.of_alloc {κ : Nat → Nat} {c : Nat} (w : World) (o : Obj) : Step κ c w (w.alloc o) (paint κ w.heap.size c) :=
  ⟨rfl, rfl, rfl, by simp, fun k hk _ => Go.Deep.blk_alloc_lt w _ _ hk, fun k hk => by unfold paint; rw [if_pos hk]⟩
theorem paint_new (κ : Nat → Nat) (s c k : Nat) (h : s ≤ k) : paint κ s c k = c := by unfold paint; rw [if_neg (by omega)]
theorem paint_old (κ : Nat → Nat) (s c k : Nat) (h : k < s) : paint κ s c k = κ k := by unfold paint; rw [if_pos h]
/-- Where v' lies behind an append onto v. -/
theorem Two.col {κ : Nat → Nat} {c : Nat} {w w' : World} {v v' : Value} (h : Ap.Two w w' v v') (hl : ∀ b, v.ownBlock = some b → b < w.heap.size ∧ κ b = c) : ∀ b, v'.ownBlock = some b → paint κ w.heap.size c b = c := by
  intro b hb
  rcases h.at hb with h1 | h1
  · rw [paint_old _ _ _ _ (hl b h1).1]
    exact (hl b h1).2
  · exact paint_new _ _ _ _ h1
/-- Coloured blocks lie from B on. -/
def LoB (κ : Nat → Nat) (w : World) (B : Nat) : Prop := ∀ k, k < w.heap.size → κ k ≠ 0 → B ≤ k
theorem LoB.step {κ κ' : Nat → Nat} {c : Nat} {w w' : World} {B : Nat} (h : LoB κ w B) (hs : Step κ c w w' κ') (hB : B ≤ w.heap.size) : LoB κ' w' B := by
  intro k hk hc
  by_cases h1 : k < w.heap.size
  · rw [hs.col k h1] at hc
    exact h k h1 hc
  · omega
theorem Step.below {κ κ' : Nat → Nat} {c : Nat} {w0 w w' : World} {B : Nat} (hs : Step κ c w w' κ') (h : LoB κ w B) (hc : c ≠ 0) (hb : Below B w0 w) (hB : B ≤ w.heap.size) : Below B w0 w' :=
  hb.trans ⟨hs.os, hs.tape, hs.output, hs.size, fun k hk => hs.block k (by omega) fun e => by have := h k (by omega) (by omega); omega⟩
/-- A list of the call's own, in a block of colour c. -/
structure RowC (κ : Nat → Nat) (c : Nat) (w : World) (e : TypeId) (z : Nat) (v : Value) (n : Nat) (xs : List Value) : Prop where
  own : w.ownsRow 0 e z v n xs
  col : ∀ b, v.ownBlock = some b → κ b = c
theorem RowC.lt {κ : Nat → Nat} {c : Nat} {w : World} {e : TypeId} {z : Nat} {v : Value} {n : Nat} {xs : List Value} (h : RowC κ c w e z v n xs) : ∀ b, v.ownBlock = some b → b < w.heap.size ∧ κ b = c := fun b hb => ⟨(World.ownsRow.lt h.own b hb).2, h.col b hb⟩
theorem RowC.step {κ κ' : Nat → Nat} {c c' : Nat} {w w' : World} {e : TypeId} {z : Nat} {v : Value} {n : Nat} {xs : List Value} (h : RowC κ c w e z v n xs) (hs : Step κ c' w w' κ') (hne : c ≠ c') : RowC κ' c w' e z v n xs :=
  ⟨ownsRow_keep h.own fun k hk => hs.block k (h.lt k hk).1 (by rw [(h.lt k hk).2]; exact hne), fun b hb => by rw [hs.col b (h.lt b hb).1]; exact h.col b hb⟩
theorem RowC.nil (κ : Nat → Nat) (c : Nat) (w : World) (e : TypeId) (z : Nat) : RowC κ c w e z (.slice none 0 0) 0 [] := ⟨World.ownsRow_nil w 0 e z, fun b hb => by cases hb⟩
theorem RowC.form {κ : Nat → Nat} {c : Nat} {w : World} {e : TypeId} {z : Nat} {v : Value} {n : Nat} {xs : List Value} (h : RowC κ c w e z v n xs) : ∃ a cap, v = .slice a n cap ∧ n ≤ cap ∧ cap ≤ 9223372036854775807 ∧ (0 < n → ∃ g, a = some ⟨g, 0, none⟩ ∧ g < w.heap.size ∧ κ g = c ∧ (∀ j, w.frozen? ⟨g, j, none⟩ = false) ∧ ∀ (j : Nat) (u : Value), xs[j]? = some u → w.cell? ⟨g, j, none⟩ = some u) := by
  have hown := h.own
  rcases h.own.2 with ⟨rfl, h0⟩ | ⟨g, cap, cur, rfl, hg, hh, hnc, hcp, hcs, htake⟩
  · exact ⟨none, 0, by rw [h0], by omega, by omega, fun h => by omega⟩
  · refine ⟨_, cap, rfl, hnc, by unfold maxLen at hcp; omega, fun _ => ⟨g, rfl, (hown.lt g rfl).2, h.col g rfl, fun j => by simp [World.frozen?, hh], fun j u hu => ?_⟩⟩
    have hj : j < n * z := by rw [← hown.1]; exact (List.getElem?_eq_some_iff.1 hu).1
    rw [hown.cellAt j hj]
    exact hu
/-- Its cells. -/
theorem RowC.at {κ : Nat → Nat} {c : Nat} {w : World} {e : TypeId} {z n g cap : Nat} {xs : List Value} (h : RowC κ c w e z (.slice (some ⟨g, 0, none⟩) n cap) n xs) :
    g < w.heap.size ∧ κ g = c ∧ n ≤ cap ∧ cap ≤ 9223372036854775807 ∧ (∀ j, w.frozen? ⟨g, j, none⟩ = false) ∧ ∀ (j : Nat) (u : Value), xs[j]? = some u → w.cell? ⟨g, j, none⟩ = some u := by
  have hown := h.own
  rcases h.own.2 with ⟨h1, h0⟩ | ⟨g', cap', cur, h1, hg, hh, hnc, hcp, hcs, htake⟩
  · cases h1
  · simp only [Value.slice.injEq, Option.some.injEq, Addr.mk.injEq, and_true, true_and] at h1
    obtain ⟨rfl, rfl⟩ := h1
    refine ⟨(hown.lt g rfl).2, h.col g rfl, hnc, by unfold maxLen at hcp; omega, fun j => by simp [World.frozen?, hh], fun j u hu => ?_⟩
    have hj : j < n * z := by rw [← hown.1]; exact (List.getElem?_eq_some_iff.1 hu).1
    rw [hown.cellAt j hj]
    exact hu
/-- A store into it. -/
theorem RowC.set {κ : Nat → Nat} {c : Nat} {w : World} {e : TypeId} {z n g cap : Nat} {xs : List Value} (h : RowC κ c w e z (.slice (some ⟨g, 0, none⟩) n cap) n xs) (i : Nat) (u : Value) : RowC κ c (w.setCell ⟨g, i, none⟩ u) e z (.slice (some ⟨g, 0, none⟩) n cap) n (xs.set i u) :=
  ⟨(h.own.stored i u).1, h.col⟩
/-- Less of it. -/
theorem RowC.less {κ : Nat → Nat} {c : Nat} {w : World} {e : TypeId} {z n g cap : Nat} {xs : List Value} (h : RowC κ c w e z (.slice (some ⟨g, 0, none⟩) n cap) n xs) (m : Nat) (hm : m ≤ n) : RowC κ c w e z (.slice (some ⟨g, 0, none⟩) m cap) m (xs.take (m * z)) := by
  refine ⟨⟨?_, ?_⟩, h.col⟩
  · rw [List.length_take, h.own.1]
    have := Nat.mul_le_mul_right z hm
    omega
  · rcases h.own.2 with ⟨h1, _⟩ | ⟨g', cap', cur, h1, hg, hh, hnc, hcp, hcs, htake⟩
    · cases h1
    · simp only [Value.slice.injEq, Option.some.injEq, Addr.mk.injEq, and_true, true_and] at h1
      obtain ⟨rfl, rfl⟩ := h1
      refine .inr ⟨g, cap, cur, rfl, hg, hh, by omega, hcp, hcs, ?_⟩
      rw [← htake, List.take_take]
      have := Nat.mul_le_mul_right z hm
      rw [Nat.min_eq_left this]
theorem RowC.kind {κ : Nat → Nat} {c : Nat} {w : World} {e : TypeId} {z : Nat} {v : Value} {n : Nat} {xs : List Value} (h : RowC κ c w e z v n xs) : ∀ g, v.ownBlock = some g → ∃ cs fz, w.heap[g]? = some (.cells cs e fz) := by
  intro g hv
  rcases h.own.2 with ⟨h1, _⟩ | ⟨g', cap, cur, h1, hg, hh, _⟩
  · rw [h1] at hv; cases hv
  · rw [h1] at hv
    obtain rfl : g' = g := by simpa [Value.ownBlock] using hv
    exact ⟨_, _, hh⟩
theorem new_cells (w : World) (cs : List Value) (e : TypeId) : ∀ j u, cs[j]? = some u → (w.alloc (.cells cs.toArray e)).cell? ((⟨w.heap.size, 0, none⟩ : Addr).add j) = some u := by
  intro j u hj
  have h1 : (w.alloc (.cells cs.toArray e)).heap[w.heap.size]? = some (.cells cs.toArray e (0, 0)) := Go.Deep.blk_alloc_new _ _
  rw [Addr.add_lit, Nat.zero_add]
  simp only [World.cell?, h1]
  simp [hj]
theorem RowC.drew {κ : Nat → Nat} {c : Nat} {w : World} {e : TypeId} {z : Nat} {v : Value} {n : Nat} {xs : List Value} (h : RowC κ c w e z v n xs) : RowC κ c w.drew e z v n xs := ⟨ownsRow_keep h.own fun _ _ => rfl, h.col⟩
theorem one_of {l : List Value} (h : l.all (fun u => u.oneCell') = true) : ∀ u ∈ l, u.oneCell' = true := fun u hu => List.all_eq_true.1 h u hu
/-- What an append leaves. -/
theorem pushed {κ : Nat → Nat} {c : Nat} {w W0 w' : World} {e : TypeId} {z n g cap : Nat} {v : Value} {xs ys : List Value} (h : RowC κ c w e z v n xs) (hW : Below w.heap.size w W0)
    (h1 : w'.ownsRow 0 e z (.slice (some ⟨g, 0, none⟩) (n + 1) cap) (n + 1) ys) (h2 : W0.grownBy w' v.ownBlock) (h3 : v.ownBlock = some g ∨ g = W0.heap.size) :
    RowC (paint κ w.heap.size c) c w' e z (.slice (some ⟨g, 0, none⟩) (n + 1) cap) (n + 1) ys ∧ Step κ c w w' (paint κ w.heap.size c) := by
  have hs := hW.size
  refine ⟨⟨h1, fun b hb => ?_⟩, h2.os.trans hW.os, h2.tape.trans hW.tape, h2.output.trans hW.output, Nat.le_trans hs h2.size, fun k hk hc => ?_, fun k hk => paint_old _ _ _ _ hk⟩
  · have hg : b = g := by simpa [Value.ownBlock] using hb.symm
    subst hg
    rcases h3 with h3 | h3
    · obtain ⟨k1, k2⟩ := h.lt b h3
      rw [paint_old _ _ _ _ k1]
      exact k2
    · exact paint_new _ _ _ _ (by omega)
  · refine (h2.block k (by omega) fun e => hc (h.col k e.symm)).trans (hW.block k hk)
/-- 'append(v, x)' of one element, whose cells lie in a new block. -/
theorem wpList_pushC {ops : Array Oper} {rest : List Oper} {o : Oper} {a : Act} {Q : Exit → Act → World → Prop} {w : World} (hgd : o.guard = none) (s x : Operand) (t e : TypeId)
    (ho : o.op = .call { callee := .builtin .append, args := #[s, x], argTypes := #[t, t] }) (i : TypeInfo) (zv : Value) (z bytes : Nat) (ht : Tryd.prog.underlying t = some (.slice e)) (hi : Tryd.prog.info? e = some i) (hz : i.zero = some zv)
    (hsize : i.size = z) (hby : i.bytes = bytes) (hzs : zv.cells.size = z) (hz0 : 0 < z) (κ : Nat → Nat) (c : Nat) (v : Value) (n : Nat) (xs : List Value) (hs : a.eval s = v) (h : RowC κ c w e z v n xs) (cs : List Value) (hcs : cs.length = z) (h1 : ∀ u ∈ cs, u.oneCell' = true)
    (hx : a.eval x = .slice (some ⟨w.heap.size, 0, none⟩) 1 1) (hb : (n + 1) * bytes ≤ 140737488355328) (hb2 : n + 1 ≤ 140737488355328)
    (hk : ∀ g cap w', RowC (paint κ w.heap.size c) c w' e z (.slice (some ⟨g, 0, none⟩) (n + 1) cap) (n + 1) (xs ++ cs) → Step κ c w w' (paint κ w.heap.size c) → wpList Tryd.prog ops Q rest (a.put o.dst (.slice (some ⟨g, 0, none⟩) (n + 1) cap)) w') :
    wpList Tryd.prog ops Q (o :: rest) a (w.alloc (.cells cs.toArray e)) := by
  refine wpList_append_lies _ hgd s x t ho 0 e i zv z bytes ht hi hz hsize hby hzs hz0 v n xs hs (h.own.alloc _) ⟨w.heap.size, 0, none⟩ 1 1 cs hx (by rw [hcs, Nat.one_mul]) (new_cells w cs e) h1 (by omega) (by unfold maxLen; omega) hb (by omega) _ rfl ?_
  intro g cap w' h2 h3 h4 _
  obtain ⟨k1, k2⟩ := pushed h ((Below.refl _ _).alloc (Nat.le_refl _) _) h2 h3 h4
  exact hk g cap w' k1 k2
/-- The same at a step of a region that draws its order. -/
theorem step_pushC {ops : Array Oper} {o : Oper} {a : Act} {K : Act → World → Prop} {Q : Exit → Act → World → Prop} {E : Prop} {w W0 : World} (hgd : o.guard = none) (s x : Operand) (t e : TypeId)
    (ho : o.op = .call { callee := .builtin .append, args := #[s, x], argTypes := #[t, t] }) (i : TypeInfo) (zv : Value) (z bytes : Nat) (ht : Tryd.prog.underlying t = some (.slice e)) (hi : Tryd.prog.info? e = some i) (hz : i.zero = some zv)
    (hsize : i.size = z) (hby : i.bytes = bytes) (hzs : zv.cells.size = z) (hz0 : 0 < z) (κ : Nat → Nat) (c : Nat) (v : Value) (n : Nat) (xs : List Value) (hs : a.eval s = v) (h : RowC κ c w e z v n xs) (hW : Below w.heap.size w W0) (cs : List Value) (hcs : cs.length = z) (h1 : ∀ u ∈ cs, u.oneCell' = true)
    (ad : Addr) (hnews : ∀ j u, cs[j]? = some u → W0.cell? (ad.add j) = some u) (hx : a.eval x = .slice (some ad) 1 1) (hb : (n + 1) * bytes ≤ 140737488355328) (hb2 : n + 1 ≤ 140737488355328)
    (hk : ∀ g cap w', RowC (paint κ w.heap.size c) c w' e z (.slice (some ⟨g, 0, none⟩) (n + 1) cap) (n + 1) (xs ++ cs) → Step κ c w w' (paint κ w.heap.size c) → K (a.put o.dst (.slice (some ⟨g, 0, none⟩) (n + 1) cap)) w') :
    if Region.wanted o (yielded ops a.tmps) = true then Oper.wp Tryd.prog o a W0 K Q else E := by
  refine step_append_lies _ hgd s x t ho 0 e i zv z bytes ht hi hz hsize hby hzs hz0 v n xs hs (ownsRow_keep h.own fun k hk => hW.block k (h.lt k hk).1) ad 1 1 cs hx (by rw [hcs, Nat.one_mul]) hnews h1 (by omega) (by unfold maxLen; omega) hb (by omega) _ rfl ?_
  intro g cap w' h2 h3 h4 _
  obtain ⟨k1, k2⟩ := pushed h hW h2 h3 h4
  exact hk g cap w' k1 k2
end Go.Proofs.YthhfmcikfdagiaaDoor

/-
  Rows of arcs made lead by lead: the same as byte by byte. Walks whose states lead by stretches of bytes.
-/
namespace Go.Proofs.YthhfmcikfdagiaaDoor
namespace Au
variable {σ τ : Type}

/-- An arc behind others; or the last one goes on, if both lead to the same side by side. -/
def joined (l : List Arc) (lo hi k : Nat) : List Arc :=
  match l.getLast? with
  | some a => if a.to = (k : Int) ∧ a.hi + 1 = (lo : Int) then l.dropLast ++ [⟨a.lo, hi, k⟩] else l ++ [⟨lo, hi, k⟩]
  | none => [⟨lo, hi, k⟩]
theorem joined_nil (lo hi k : Nat) : joined [] lo hi k = [⟨lo, hi, k⟩] := rfl
theorem joined_snoc (r : List Arc) (a : Arc) (lo hi k : Nat) : joined (r ++ [a]) lo hi k = if a.to = (k : Int) ∧ a.hi + 1 = (lo : Int) then r ++ [⟨a.lo, hi, k⟩] else r ++ [a] ++ [⟨lo, hi, k⟩] := by
  unfold joined
  simp
theorem joined_one (l : List Arc) (lo k : Nat) : joined l lo lo k = grown l lo k := by
  rcases last_cases l with rfl | ⟨r, a, rfl⟩
  · rfl
  · rw [joined_snoc, grown_snoc]
    by_cases h : a.to = (k : Int) ∧ a.hi + 1 = (lo : Int)
    · rw [if_pos h, if_pos ⟨by omega, h.1⟩]
    · rw [if_neg h, if_neg (fun e => h ⟨e.2, by omega⟩)]
theorem grown_joined (l : List Arc) (lo hi k : Nat) : grown (joined l lo hi k) (hi + 1) k = joined l lo (hi + 1) k := by
  rcases last_cases l with rfl | ⟨r, a, rfl⟩
  · rw [joined_nil, joined_nil, show [(⟨(lo : Int), (hi : Int), (k : Int)⟩ : Arc)] = [] ++ [⟨lo, hi, k⟩] from rfl, grown_snoc, if_pos ⟨by dsimp only; omega, rfl⟩]
    rfl
  · rw [joined_snoc, joined_snoc]
    by_cases h : a.to = (k : Int) ∧ a.hi + 1 = (lo : Int)
    · rw [if_pos h, if_pos h, grown_snoc, if_pos ⟨by dsimp only; omega, rfl⟩]
    · rw [if_neg h, if_neg h, grown_snoc, if_pos ⟨by dsimp only; omega, rfl⟩]

/-- A stretch of bytes, and the state to which they lead. -/
structure Trail (σ : Type) where
  lo : Nat
  hi : Nat
  to : σ
/-- The leads of a state, from byte c on: rising; by no other byte anything is led to. -/
def Leads (W : Walk σ) (s : σ) : Nat → List (Trail σ) → Prop
  | c, [] => ∀ x, c ≤ x → x < 256 → W.go s x = none
  | c, l :: r => c ≤ l.lo ∧ l.lo ≤ l.hi ∧ l.hi < 256 ∧ (∀ x, c ≤ x → x < l.lo → W.go s x = none) ∧ (∀ x, l.lo ≤ x → x ≤ l.hi → W.go s x = some l.to) ∧ Leads W s (l.hi + 1) r
/-- One lead of a state. -/
def Walk.lead (W : Walk σ) (p : List σ × List Arc) (l : Trail σ) : List σ × List Arc :=
  (if find W.same p.1 l.to = p.1.length then p.1 ++ [l.to] else p.1, joined p.2 l.lo l.hi (find W.same p.1 l.to))
theorem bytes_skip (W : Walk σ) (s : σ) (m : List σ) (c d : Nat) (h : ∀ x, c ≤ x → x < c + d → W.go s x = none) : W.bytes s m (c + d) = W.bytes s m c := by
  induction d with
  | zero => rfl
  | succ d ih =>
    rw [← Nat.add_assoc, Walk.bytes]
    unfold Walk.byte
    rw [h (c + d) (by omega) (by omega)]
    exact ih fun x h1 h2 => h x h1 (by omega)
theorem find_self (W : Walk σ) (hr : ∀ s, W.same s s = true) (m : List σ) (t : σ) : find W.same (if find W.same m t = m.length then m ++ [t] else m) t = find W.same m t := by
  by_cases h : find W.same m t = m.length
  · rw [if_pos h, find_snoc _ hr _ _ h, h]
  · rw [if_neg h]
theorem bytes_run (W : Walk σ) (hr : ∀ s, W.same s s = true) (s t : σ) (m : List σ) (lo d : Nat) (h : ∀ x, lo ≤ x → x ≤ lo + d → W.go s x = some t) : W.bytes s m (lo + d + 1) = W.lead (W.bytes s m lo) ⟨lo, lo + d, t⟩ := by
  induction d with
  | zero =>
    rw [Nat.add_zero, Walk.bytes]
    unfold Walk.byte Walk.lead
    rw [h lo (Nat.le_refl _) (by omega)]
    dsimp only
    rw [Nat.add_zero, joined_one]
  | succ d ih =>
    have e : lo + (d + 1) + 1 = (lo + d + 1) + 1 := by omega
    rw [e, Walk.bytes, ih fun x h1 h2 => h x h1 (by omega)]
    unfold Walk.byte Walk.lead
    rw [h (lo + d + 1) (by omega) (by omega)]
    dsimp only
    rw [find_self W hr]
    have e2 : ¬ find W.same (W.bytes s m lo).1 t = (if find W.same (W.bytes s m lo).1 t = (W.bytes s m lo).1.length then (W.bytes s m lo).1 ++ [t] else (W.bytes s m lo).1).length ∨ False := by
      left
      have := find_le W.same (W.bytes s m lo).1 t
      by_cases h : find W.same (W.bytes s m lo).1 t = (W.bytes s m lo).1.length
      · rw [if_pos h, List.length_append]; simp; omega
      · rw [if_neg h]; omega
    rw [if_neg (by rcases e2 with e2 | e2; exact e2; exact e2.elim)]
    rw [show lo + (d + 1) = (lo + d) + 1 from by omega, ← grown_joined]
/-- All leads are all bytes. -/
theorem leads_bytes (W : Walk σ) (hr : ∀ s, W.same s s = true) (s : σ) (m : List σ) (L : List (Trail σ)) : ∀ c, c ≤ 256 → Leads W s c L → L.foldl W.lead (W.bytes s m c) = W.bytes s m 256 := by
  induction L with
  | nil =>
    intro c hc h
    obtain ⟨d, hd⟩ : ∃ d, 256 = c + d := ⟨256 - c, by omega⟩
    rw [hd, bytes_skip W s m c d fun x h1 h2 => h x h1 (by omega)]
    rfl
  | cons l r ih =>
    intro c hc h
    obtain ⟨h1, h2, h3, h4, h5, h6⟩ := h
    obtain ⟨d, hd⟩ : ∃ d, l.lo = c + d := ⟨l.lo - c, by omega⟩
    obtain ⟨e, he⟩ : ∃ e, l.hi = l.lo + e := ⟨l.hi - l.lo, by omega⟩
    have k1 : W.bytes s m l.lo = W.bytes s m c := by rw [hd]; exact bytes_skip W s m c d fun x g1 g2 => h4 x g1 (by omega)
    have k2 : W.bytes s m (l.hi + 1) = W.lead (W.bytes s m c) l := by
      rw [he, bytes_run W hr s l.to m l.lo e fun x g1 g2 => h5 x g1 (by omega), k1, ← he]
    rw [List.foldl_cons, ← k2]
    exact ih _ (by omega) h6
/-- A row of leads makes the walk's next row. -/
theorem leads_row (W : Walk σ) (hr : ∀ s, W.same s s = true) (s : σ) (m : List σ) (L : List (Trail σ)) (h : Leads W s 0 L) : L.foldl W.lead (m, []) = W.bytes s m 256 :=
  leads_bytes W hr s m L 0 (by omega) h
/-- The first k leads. -/
def Walk.leads (W : Walk σ) (m : List σ) (L : List (Trail σ)) (k : Nat) : List σ × List Arc := (L.take k).foldl W.lead (m, [])
theorem leads_zero (W : Walk σ) (m : List σ) (L : List (Trail σ)) : W.leads m L 0 = (m, []) := by simp [Walk.leads]
theorem leads_succ (W : Walk σ) (m : List σ) (L : List (Trail σ)) (k : Nat) (h : k < L.length) : W.leads m L (k + 1) = W.lead (W.leads m L k) L[k] := by
  unfold Walk.leads
  rw [List.take_succ_eq_append_getElem h, List.foldl_append]
  rfl
theorem leads_all (W : Walk σ) (hr : ∀ s, W.same s s = true) (s : σ) (m : List σ) (L : List (Trail σ)) (h : Leads W s 0 L) : W.leads m L L.length = W.bytes s m 256 := by
  unfold Walk.leads
  rw [List.take_length]
  exact leads_row W hr s m L h
theorem lead_arcs (W : Walk σ) (p : List σ × List Arc) (l : Trail σ) : (W.lead p l).2.length ≤ p.2.length + 1 := by
  show (joined p.2 l.lo l.hi _).length ≤ _
  rcases last_cases p.2 with h | ⟨r, a, h⟩
  · rw [h, joined_nil]; simp
  · rw [h, joined_snoc]
    split <;> simp
theorem leads_arcs (W : Walk σ) (m : List σ) (L : List (Trail σ)) (k : Nat) : (W.leads m L k).2.length ≤ k := by
  induction k with
  | zero => rw [leads_zero]; exact Nat.le_refl _
  | succ k ih =>
    by_cases h : k < L.length
    · rw [leads_succ W m L k h]
      have := lead_arcs W (W.leads m L k) L[k]
      omega
    · have e : W.leads m L (k + 1) = W.leads m L k := by
        unfold Walk.leads
        rw [List.take_of_length_le (by omega), List.take_of_length_le (by omega)]
      rw [e]; omega
/-- No more leads than bytes. -/
theorem Leads.few {W : Walk σ} {s : σ} {L : List (Trail σ)} : ∀ {c : Nat}, c ≤ 256 → Leads W s c L → L.length + c ≤ 256 := by
  induction L with
  | nil => intro c hc _; simpa using hc
  | cons l r ih =>
    intro c hc h
    obtain ⟨h1, h2, h3, _, _, h6⟩ := h
    have := ih (by omega) h6
    simp only [List.length_cons]
    omega
/-- How a loop over the leads met so far ends: what it says is a walk's next row. -/
theorem states_leads (W : Walk σ) (hr : ∀ s, W.same s s = true) (s a : σ) (i : Nat) (ha : (W.met s i)[i]? = some a) (L : List (Trail σ)) (h : Leads W a 0 L) :
    (W.leads (W.met s i) L L.length).1 = W.met s (i + 1) ∧ W.out s i ++ [⟨W.fin a, (W.leads (W.met s i) L L.length).2⟩] = W.out s (i + 1) := by
  rw [leads_all W hr a _ L h]
  unfold Walk.met Walk.out at *
  simp only [Walk.states]
  rw [ha]
  exact ⟨rfl, rfl⟩
end Au
end Go.Proofs.YthhfmcikfdagiaaDoor

/-
  States in classes, plainly: a class is split in two, its states told by where they stand; what is kept by it.
-/
namespace Go.Proofs.YthhfmcikfdagiaaDoor
namespace Au

/-- States in classes: of each state its class (-1: none) and its place in it; the classes' states; which wait. -/
structure Cls where
  of : Nat → Int
  pos : Nat → Nat
  mem : List (List Nat)
  waits : List Bool
  wq : List Nat
def Cls.row (C : Cls) (c : Nat) : List Nat := C.mem.getD c []
/-- Its states but T stand where they are told to. -/
structure OkBut (n : Nat) (C : Cls) (T : List Nat) : Prop where
  mem : ∀ (c i s : Nat), (C.row c)[i]? = some s → s < n ∧ C.of s = (c : Int) ∧ C.pos s = i ∧ s ∉ T
  of : ∀ s, s < n → s ∉ T → C.of s = -1 ∨ ∃ c : Nat, C.of s = (c : Int) ∧ (C.row c)[C.pos s]? = some s
/-- The last state comes into the place of one that is taken out. -/
def Cls.takeOut (C : Cls) (c s : Nat) : Cls :=
  { C with
    pos := fun j => if j = (C.row c).getD ((C.row c).length - 1) 0 then C.pos s else C.pos j
    mem := C.mem.set c (((C.row c).set (C.pos s) ((C.row c).getD ((C.row c).length - 1) 0)).take ((C.row c).length - 1)) }
/-- A class more. -/
def Cls.found (C : Cls) (l : List Nat) : Cls :=
  { C with
    of := fun j => if j ∈ l then (C.mem.length : Int) else C.of j
    pos := fun j => if j ∈ l then l.idxOf j else C.pos j
    mem := C.mem ++ [l]
    waits := C.waits ++ [false] }
def Cls.wait (C : Cls) (c : Nat) : Cls := { C with waits := C.waits.set c true, wq := C.wq ++ [c] }
/-- Some of a class's states are taken out. -/
def Cls.out (C : Cls) (c : Nat) (l : List Nat) : Cls := l.foldl (fun C s => C.takeOut c s) C
def Cls.split (C : Cls) (c : Nat) (l : List Nat) : Cls :=
  if ((C.out c l).found l).waits.getD c false = false ∧ (((C.out c l).found l).row c).length < l.length then ((C.out c l).found l).wait c
  else ((C.out c l).found l).wait C.mem.length

theorem row_set (C : Cls) (c : Nat) (r : List Nat) (hc : c < C.mem.length) (c' : Nat) : ({ C with mem := C.mem.set c r } : Cls).row c' = if c' = c then r else C.row c' := by
  unfold Cls.row
  by_cases h : c' = c
  · subst h
    simp [List.getD, hc]
  · simp [List.getD, h, Ne.symm h]
theorem row_lt {C : Cls} {c i s : Nat} (h : (C.row c)[i]? = some s) : c < C.mem.length := by
  rcases Nat.lt_or_ge c C.mem.length with h1 | h1
  · exact h1
  · unfold Cls.row at h
    simp [List.getD, List.getElem?_eq_none h1] at h
theorem takeOut_row (C : Cls) (c s c' : Nat) (hc : c < C.mem.length) : (C.takeOut c s).row c' = if c' = c then ((C.row c).set (C.pos s) ((C.row c).getD ((C.row c).length - 1) 0)).take ((C.row c).length - 1) else C.row c' := by
  unfold Cls.takeOut
  exact row_set { C with pos := _ } c _ hc c'
theorem takeOut_ok {n : Nat} {C : Cls} {T : List Nat} (h : OkBut n C T) (c s : Nat) (hs : s < n) (hT : s ∉ T) (hc : C.of s = (c : Int)) :
    OkBut n (C.takeOut c s) (s :: T) ∧ ((C.takeOut c s).row c).length + 1 = (C.row c).length := by
  obtain ⟨hp, hcl⟩ : (C.row c)[C.pos s]? = some s ∧ c < C.mem.length := by
    rcases h.of s hs hT with e | ⟨c2, e, h2⟩
    · omega
    · obtain rfl : c2 = c := by omega
      exact ⟨h2, row_lt h2⟩
  obtain ⟨hpl, hpe⟩ := List.getElem?_eq_some_iff.1 hp
  have hrow := fun c' => takeOut_row C c s c' hcl
  have hlast : (C.row c)[(C.row c).length - 1]? = some ((C.row c).getD ((C.row c).length - 1) 0) := by
    rw [List.getD_eq_getElem?_getD, List.getElem?_eq_getElem (by omega)]
    rfl
  have hpos : ∀ j, (C.takeOut c s).pos j = if j = (C.row c).getD ((C.row c).length - 1) 0 then C.pos s else C.pos j := fun _ => rfl
  have hof : ∀ j, (C.takeOut c s).of j = C.of j := fun _ => rfl
  generalize hm : (C.row c).getD ((C.row c).length - 1) 0 = mv at *
  obtain ⟨m1, m2, m3, m4⟩ := h.mem c _ mv hlast
  have hget : ∀ i, (((C.row c).set (C.pos s) mv).take ((C.row c).length - 1))[i]? = if i < (C.row c).length - 1 then (if i = C.pos s then some mv else (C.row c)[i]?) else none := by
    intro i
    rw [List.getElem?_take]
    split
    · rw [List.getElem?_set]
      by_cases e : C.pos s = i
      · rw [if_pos e, if_pos e.symm, if_pos (by omega)]
      · rw [if_neg e, if_neg (Ne.symm e)]
    · rfl
  refine ⟨⟨fun c' i x hx => ?_, fun x hx hxT => ?_⟩, ?_⟩
  · rw [hrow] at hx
    rw [hpos, hof]
    by_cases hcc : c' = c
    · subst hcc
      rw [if_pos rfl, hget] at hx
      split at hx
      · rename_i hi
        split at hx
        · rename_i hip
          cases hx
          refine ⟨m1, m2, by rw [if_pos rfl, hip], ?_⟩
          rw [List.mem_cons]
          rintro (e | e)
          · rw [e] at m3; omega
          · exact m4 e
        · rename_i hip
          obtain ⟨x1, x2, x3, x4⟩ := h.mem _ _ _ hx
          refine ⟨x1, x2, ?_, ?_⟩
          · rw [if_neg]
            · exact x3
            · rintro rfl; omega
          · rw [List.mem_cons]
            rintro (rfl | e)
            · omega
            · exact x4 e
      · cases hx
    · rw [if_neg hcc] at hx
      obtain ⟨x1, x2, x3, x4⟩ := h.mem _ _ _ hx
      refine ⟨x1, x2, ?_, ?_⟩
      · rw [if_neg]
        · exact x3
        · rintro rfl; omega
      · rw [List.mem_cons]
        rintro (rfl | e)
        · omega
        · exact x4 e
  · rw [List.mem_cons, not_or] at hxT
    rw [hof]
    rcases h.of x hx hxT.2 with e | ⟨c2, e, h2⟩
    · exact .inl e
    · right
      refine ⟨c2, e, ?_⟩
      rw [hrow, hpos]
      by_cases hcc : c2 = c
      · subst hcc
        obtain ⟨_, _, _, _⟩ := h.mem _ _ _ h2
        obtain ⟨hxl, hxe⟩ := List.getElem?_eq_some_iff.1 h2
        rw [if_pos rfl, hget]
        by_cases hxm : x = mv
        · subst hxm
          rw [if_pos rfl]
          have : C.pos s ≠ (C.row c2).length - 1 := by
            intro e2
            rw [e2, hlast] at hp
            cases hp
            exact hxT.1 rfl
          rw [if_pos (by omega), if_pos rfl]
        · rw [if_neg hxm]
          have k1 : C.pos x ≠ (C.row c2).length - 1 := by
            intro e2
            rw [e2, hlast] at h2
            cases h2
            exact hxm rfl
          have k2 : C.pos x ≠ C.pos s := by
            intro e2
            rw [e2, hp] at h2
            cases h2
            exact hxT.1 rfl
          rw [if_pos (by omega), if_neg k2]
          exact h2
      · rw [if_neg hcc, if_neg]
        · exact h2
        · rintro rfl; omega
  · rw [hrow, if_pos rfl, List.length_take, List.length_set]
    omega
theorem out_ok {n : Nat} (c : Nat) (l : List Nat) : ∀ (C : Cls) (T : List Nat), OkBut n C T → l.Nodup → (∀ s ∈ l, s < n ∧ s ∉ T ∧ C.of s = (c : Int)) →
    OkBut n (C.out c l) (l.reverse ++ T) ∧ ((C.out c l).row c).length + l.length = (C.row c).length ∧ (C.out c l).of = C.of ∧ (C.out c l).waits = C.waits ∧ (C.out c l).wq = C.wq ∧ (C.out c l).mem.length = C.mem.length ∧ (∀ c', c' ≠ c → (C.out c l).row c' = C.row c') := by
  induction l with
  | nil => intro C T h _ _; exact ⟨by simpa [Cls.out] using h, by simp [Cls.out], rfl, rfl, rfl, rfl, fun _ _ => rfl⟩
  | cons s r ih =>
    intro C T h hn hl
    rw [List.nodup_cons] at hn
    obtain ⟨h1, h2, h3⟩ := hl s (List.mem_cons_self ..)
    obtain ⟨k1, k2⟩ := takeOut_ok h c s h1 h2 h3
    have hcl : c < C.mem.length := by
      rcases h.of s h1 h2 with e | ⟨c2, e, h4⟩
      · omega
      · obtain rfl : c2 = c := by omega
        exact row_lt h4
    obtain ⟨j1, j2, j3, j4, j5, j6, j7⟩ := ih (C.takeOut c s) (s :: T) k1 hn.2 fun x hx => by
      obtain ⟨g1, g2, g3⟩ := hl x (List.mem_cons_of_mem _ hx)
      refine ⟨g1, ?_, g3⟩
      rw [List.mem_cons, not_or]
      exact ⟨fun e => hn.1 (e ▸ hx), g2⟩
    refine ⟨by simpa [Cls.out] using j1, ?_, j3, j4, j5, ?_, fun c' hc' => ?_⟩
    · have : (C.out c (s :: r)) = (C.takeOut c s).out c r := rfl
      rw [this, List.length_cons]
      omega
    · have : (C.out c (s :: r)) = (C.takeOut c s).out c r := rfl
      rw [this, j6]
      simp [Cls.takeOut]
    · have : (C.out c (s :: r)) = (C.takeOut c s).out c r := rfl
      rw [this, j7 c' hc', takeOut_row C c s c' hcl, if_neg hc']
theorem found_row (C : Cls) (l : List Nat) (c : Nat) : (C.found l).row c = if c = C.mem.length then l else C.row c := by
  unfold Cls.found Cls.row
  by_cases h : c = C.mem.length
  · subst h
    simp [List.getD]
  · rw [if_neg h]
    rcases Nat.lt_or_ge c C.mem.length with h1 | h1
    · simp [List.getD, List.getElem?_append_left h1]
    · simp only [List.getD]
      rw [List.getElem?_eq_none (by simp; omega), List.getElem?_eq_none h1]
theorem idxOf_at {l : List Nat} (hn : l.Nodup) {i x : Nat} (h : l[i]? = some x) : l.idxOf x = i := by
  obtain ⟨hl, rfl⟩ := List.getElem?_eq_some_iff.1 h
  induction l generalizing i with
  | nil => simp at hl
  | cons a r ih =>
    rw [List.nodup_cons] at hn
    cases i with
    | zero => simp
    | succ i =>
      simp only [List.length_cons, Nat.add_lt_add_iff_right] at hl
      have hne : ¬ a = r[i] := fun e => hn.1 (e ▸ List.getElem_mem hl)
      simp only [List.getElem_cons_succ]
      have hb : (a == r[i]) = false := beq_eq_false_iff_ne.2 hne
      have := ih hn.2 hl (List.getElem?_eq_getElem hl)
      rw [List.idxOf_cons, hb, this]
      rfl
theorem at_idxOf {l : List Nat} {x : Nat} (h : x ∈ l) : l[l.idxOf x]? = some x := by
  have := List.idxOf_lt_length_iff.2 h
  rw [List.getElem?_eq_getElem this]
  simp
theorem found_ok {n : Nat} {C : Cls} {T : List Nat} (h : OkBut n C T) (l : List Nat) (hn : l.Nodup) (hT : ∀ s, s ∈ l ↔ s ∈ T) (hl : ∀ s ∈ l, s < n) : OkBut n (C.found l) [] := by
  have hof : ∀ j, (C.found l).of j = if j ∈ l then (C.mem.length : Int) else C.of j := fun _ => rfl
  have hpos : ∀ j, (C.found l).pos j = if j ∈ l then l.idxOf j else C.pos j := fun _ => rfl
  refine ⟨fun c i x hx => ?_, fun x hx _ => ?_⟩
  · rw [found_row] at hx
    rw [hof, hpos]
    by_cases hc : c = C.mem.length
    · rw [if_pos hc] at hx
      obtain ⟨hxl, hxe⟩ := List.getElem?_eq_some_iff.1 hx
      have hm : x ∈ l := hxe ▸ List.getElem_mem hxl
      rw [if_pos hm, if_pos hm]
      exact ⟨hl x hm, by omega, idxOf_at hn hx, by simp⟩
    · rw [if_neg hc] at hx
      obtain ⟨x1, x2, x3, x4⟩ := h.mem _ _ _ hx
      have hm : x ∉ l := fun e => x4 ((hT x).1 e)
      rw [if_neg hm, if_neg hm]
      exact ⟨x1, x2, x3, by simp⟩
  · rw [hof, hpos]
    by_cases hm : x ∈ l
    · right
      refine ⟨C.mem.length, by rw [if_pos hm], ?_⟩
      rw [found_row, if_pos rfl, if_pos hm]
      exact at_idxOf hm
    · rw [if_neg hm, if_neg hm]
      rcases h.of x hx (fun e => hm ((hT x).2 e)) with e | ⟨c, e, h2⟩
      · exact .inl e
      · right
        refine ⟨c, e, ?_⟩
        have := row_lt h2
        rw [found_row, if_neg (by omega)]
        exact h2
/-- What the waiting classes are. -/
structure WaitOk (C : Cls) : Prop where
  len : C.waits.length = C.mem.length
  wq : ∀ c, c ∈ C.wq ↔ C.waits[c]? = some true
  nodup : C.wq.Nodup
theorem WaitOk.lt {C : Cls} (h : WaitOk C) {c : Nat} (hc : c ∈ C.wq) : c < C.mem.length := by
  have := (h.wq c).1 hc
  rw [← h.len]
  exact (List.getElem?_eq_some_iff.1 this).1
theorem found_wait {C : Cls} (h : WaitOk C) (l : List Nat) : WaitOk (C.found l) := by
  refine ⟨by simp [Cls.found, h.len], fun c => ?_, h.nodup⟩
  show c ∈ C.wq ↔ (C.waits ++ [false])[c]? = some true
  rw [h.wq c]
  rcases Nat.lt_or_ge c C.waits.length with h1 | h1
  · rw [List.getElem?_append_left h1]
  · rw [List.getElem?_eq_none h1, List.getElem?_append_right h1]
    constructor
    · intro e; cases e
    · intro e
      cases hk : c - C.waits.length with
      | zero => rw [hk] at e; simp at e
      | succ k => rw [hk] at e; simp at e
theorem wait_wait {C : Cls} (h : WaitOk C) (c : Nat) (hc : c < C.mem.length) (hw : C.waits.getD c false = false) : WaitOk (C.wait c) := by
  have hl := h.len
  have hcw : C.waits[c]? = some false := by
    rw [List.getElem?_eq_getElem (by omega)]
    have : C.waits.getD c false = C.waits[c]'(by omega) := by simp [List.getD, List.getElem?_eq_getElem (show c < C.waits.length by omega)]
    rw [← this, hw]
  refine ⟨by simp [Cls.wait, hl], fun x => ?_, ?_⟩
  · show x ∈ C.wq ++ [c] ↔ (C.waits.set c true)[x]? = some true
    rw [List.mem_append, List.mem_singleton, h.wq x, List.getElem?_set]
    by_cases e : c = x
    · subst e
      rw [if_pos rfl, if_pos (by omega)]
      simp
    · rw [if_neg e]
      constructor
      · rintro (k | k)
        · exact k
        · exact absurd k.symm e
      · exact .inl
  · show (C.wq ++ [c]).Nodup
    rw [List.nodup_append]
    refine ⟨h.nodup, by simp, fun a ha b hb => ?_⟩
    rw [List.mem_singleton] at hb
    subst hb
    rintro rfl
    have := (h.wq a).1 ha
    rw [hcw] at this
    cases this
/-- What a split leaves. -/
theorem split_ok {n : Nat} {C : Cls} (h : OkBut n C []) (hw : WaitOk C) (c : Nat) (l : List Nat) (hn : l.Nodup) (hl : ∀ s ∈ l, s < n ∧ C.of s = (c : Int)) (h0 : 0 < l.length) :
    OkBut n (C.split c l) [] ∧ WaitOk (C.split c l) ∧ (C.split c l).mem.length = C.mem.length + 1 ∧ (∀ j, (C.split c l).of j = if j ∈ l then (C.mem.length : Int) else C.of j) ∧
    (∃ x, (C.split c l).wq = C.wq ++ [x] ∧ ((x = C.mem.length) ∨ (x = c ∧ c ∉ C.wq))) ∧
    (∀ c', (C.split c l).row c' = if c' = C.mem.length then l else (C.out c l).row c') ∧ ((C.out c l).row c).length + l.length = (C.row c).length ∧ (∀ c', c' ≠ c → (C.out c l).row c' = C.row c') ∧ c < C.mem.length := by
  obtain ⟨o1, o2, o3, o4, o5, o6, o7⟩ := out_ok (n := n) c l C [] h hn fun s hs => ⟨(hl s hs).1, by simp, (hl s hs).2⟩
  rw [List.append_nil] at o1
  have hcl : c < C.mem.length := by
    obtain ⟨s, hs⟩ := List.exists_mem_of_length_pos h0
    rcases h.of s (hl s hs).1 (by simp) with e | ⟨c2, e, h4⟩
    · have := (hl s hs).2; omega
    · have := (hl s hs).2
      obtain rfl : c2 = c := by omega
      exact row_lt h4
  have f1 := found_ok o1 l hn (fun s => by simp) fun s hs => (hl s hs).1
  have w0 : WaitOk (C.out c l) := ⟨by rw [o4, o6]; exact hw.len, fun x => by rw [o4, o5]; exact hw.wq x, by rw [o5]; exact hw.nodup⟩
  have f2 := found_wait w0 l
  have fl : ((C.out c l).found l).mem.length = C.mem.length + 1 := by simp [Cls.found, o6]
  have fof : ∀ j, ((C.out c l).found l).of j = if j ∈ l then (C.mem.length : Int) else C.of j := fun j => by
    show (if j ∈ l then ((C.out c l).mem.length : Int) else (C.out c l).of j) = _
    rw [o3, o6]
  have fwq : ((C.out c l).found l).wq = C.wq := o5
  have frow : ∀ c', ((C.out c l).found l).row c' = if c' = C.mem.length then l else (C.out c l).row c' := fun c' => by rw [found_row, o6]
  have fwf : ((C.out c l).found l).waits.getD C.mem.length false = false := by
    show (((C.out c l).waits ++ [false]).getD _ _) = false
    rw [o4, ← hw.len]
    simp [List.getD]
  have fwc : ((C.out c l).found l).waits.getD c false = C.waits.getD c false := by
    show (((C.out c l).waits ++ [false]).getD _ _) = _
    rw [o4]
    have : c < C.waits.length := by rw [hw.len]; exact hcl
    simp [List.getD, List.getElem?_append_left this]
  have hcw : C.waits.getD c false = false → c ∉ C.wq := fun e k => by
    have k2 := (hw.wq c).1 k
    simp only [List.getD, k2, Option.getD_some] at e
    cases e
  unfold Cls.split
  generalize (C.out c l).found l = D at *
  split
  · rename_i hlt
    exact ⟨⟨f1.mem, f1.of⟩, wait_wait f2 c (by omega) hlt.1, fl, fof, ⟨c, by show D.wq ++ [c] = _; rw [fwq], .inr ⟨rfl, hcw (by rw [← fwc]; exact hlt.1)⟩⟩, frow, o2, o7, hcl⟩
  · exact ⟨⟨f1.mem, f1.of⟩, wait_wait f2 _ (by omega) fwf, fl, fof, ⟨_, by show D.wq ++ [_] = _; rw [fwq], .inl rfl⟩, frow, o2, o7, hcl⟩
end Au
end Go.Proofs.YthhfmcikfdagiaaDoor

/-
  Classes of states that take the same: what holds while they are split by where bytes lead, and in the end.
-/
namespace Go.Proofs.YthhfmcikfdagiaaDoor
namespace Au

/-- The class of where something leads; -1: of no state. -/
def Cls.cls (C : Cls) : Option Nat → Int
  | none => -1
  | some u => C.of u
/-- Two states of one class lead alike, if they lead alike to the classes that wait, and to O by the bytes of R. -/
def Stab (d : List St) (C : Cls) (O : Option Nat → Prop) (R : Nat → Prop) : Prop :=
  ∀ s t a, s < d.length → t < d.length → C.of s = C.of t → 0 ≤ C.of s →
    (∀ c ∈ C.wq, (C.cls ((ofL d).step s a) = ((c : Nat) : Int) ↔ C.cls ((ofL d).step t a) = ((c : Nat) : Int))) → (R a → (O ((ofL d).step s a) ↔ O ((ofL d).step t a))) →
    C.cls ((ofL d).step s a) = C.cls ((ofL d).step t a)
/-- All that holds between two splits. -/
structure HInv (d : List St) (O : Option Nat → Prop) (R : Nat → Prop) (C : Cls) : Prop where
  rows : ∀ i (h : i < d.length), Row d.length 256 d[i].arcs
  ok : OkBut d.length C []
  wait : WaitOk C
  sound : ∀ s t, s < d.length → t < d.length → Eqv (ofL d) (ofL d) s t → C.of s = C.of t
  dead : ∀ s, s < d.length → (C.of s = -1 ↔ Dead (ofL d) (some s))
  fin : ∀ s t, s < d.length → t < d.length → C.of s = C.of t → 0 ≤ C.of s → (ofL d).fin s = (ofL d).fin t
  stab : Stab d C O R
  ne : ∀ c, c < C.mem.length → c ≠ 1 → C.row c ≠ []

theorem OkBut.range {n : Nat} {C : Cls} (h : OkBut n C []) {s : Nat} (hs : s < n) : C.of s = -1 ∨ ∃ c : Nat, C.of s = (c : Int) ∧ c < C.mem.length ∧ s ∈ C.row c := by
  rcases h.of s hs (by simp) with e | ⟨c, e, h2⟩
  · exact .inl e
  · exact .inr ⟨c, e, row_lt h2, (List.getElem?_eq_some_iff.1 h2).2 ▸ List.getElem_mem _⟩
theorem OkBut.mem_row {n : Nat} {C : Cls} {T : List Nat} (h : OkBut n C T) {c s : Nat} (hs : s ∈ C.row c) : s < n ∧ C.of s = (c : Int) := by
  obtain ⟨i, hi, rfl⟩ := List.getElem_of_mem hs
  obtain ⟨h1, h2, _⟩ := h.mem c i _ (List.getElem?_eq_getElem hi)
  exact ⟨h1, h2⟩
theorem OkBut.row_mem {n : Nat} {C : Cls} (h : OkBut n C []) {c s : Nat} (hs : s < n) (hc : C.of s = (c : Int)) : s ∈ C.row c := by
  rcases h.range hs with e | ⟨c2, e, _, h2⟩
  · omega
  · obtain rfl : c2 = c := by omega
    exact h2
theorem OkBut.nodup {n : Nat} {C : Cls} {T : List Nat} (h : OkBut n C T) (c : Nat) : (C.row c).Nodup := by
  unfold List.Nodup
  rw [List.pairwise_iff_getElem]
  intro i j hi hj hij e2
  have h1 := (h.mem c i _ (List.getElem?_eq_getElem hi)).2.2.1
  have h2 := (h.mem c j _ (List.getElem?_eq_getElem hj)).2.2.1
  rw [e2] at h1
  omega
/-- No more classes than states, and one. -/
theorem few_classes {n : Nat} {C : Cls} (h : OkBut n C []) (hne : ∀ c, c < C.mem.length → c ≠ 1 → C.row c ≠ []) : C.mem.length ≤ n + 1 := by
  let L := (List.range C.mem.length).filter (fun c => decide (c ≠ 1))
  have hl : C.mem.length ≤ L.length + 1 := by
    have h1 : ∀ m, m ≤ ((List.range m).filter (fun c => decide (c ≠ 1))).length + 1 ∧ (m ≤ 1 → m ≤ ((List.range m).filter (fun c => decide (c ≠ 1))).length) := by
      intro m
      induction m with
      | zero => simp
      | succ m ih =>
        rw [List.range_succ, List.filter_append, List.length_append]
        by_cases e : m = 1
        · subst e
          have := ih.2 (Nat.le_refl _)
          constructor
          · omega
          · intro h; omega
        · have e2 : (List.filter (fun c => decide (c ≠ 1)) [m]).length = 1 := by simp [e]
          rw [e2]
          constructor
          · omega
          · intro h
            have := ih.2 (by omega)
            omega
    exact (h1 _).1
  have hhead : ∀ c ∈ L, ∃ s, s < n ∧ C.of s = (c : Int) ∧ (C.row c).getD 0 0 = s := by
    intro c hc
    obtain ⟨h1, h2⟩ := List.mem_filter.1 hc
    have h3 := hne c (List.mem_range.1 h1) (by simpa using h2)
    cases hr : C.row c with
    | nil => exact absurd hr h3
    | cons x r =>
      have := h.mem_row (c := c) (s := x) (by rw [hr]; exact List.mem_cons_self ..)
      exact ⟨x, this.1, this.2, by simp [List.getD]⟩
  have hn : (L.map fun c => (C.row c).getD 0 0).Nodup := by
    unfold List.Nodup
    rw [List.pairwise_map]
    have hL : L.Nodup := List.Nodup.sublist List.filter_sublist List.nodup_range
    refine List.Pairwise.imp_of_mem (fun {a b} ha hb hab e => hab ?_) hL
    obtain ⟨s, _, h2, h3⟩ := hhead a ha
    obtain ⟨t, _, h5, h6⟩ := hhead b hb
    rw [h3, h6] at e
    subst e
    omega
  have hsub : (L.map fun c => (C.row c).getD 0 0) ⊆ List.range n := fun x hx => by
    obtain ⟨c, hc, rfl⟩ := List.mem_map.1 hx
    obtain ⟨s, h1, _, h3⟩ := hhead c hc
    rw [h3]
    exact List.mem_range.2 h1
  have := hn.length_le_of_subset hsub
  simp only [List.length_map, List.length_range] at this
  omega

/-- A split keeps all of it. -/
theorem HInv.split {d : List St} {O : Option Nat → Prop} {R : Nat → Prop} {C : Cls} (h : HInv d O R C) (X : Nat → Prop) (hX : ∀ s t, s < d.length → t < d.length → Eqv (ofL d) (ofL d) s t → (X s ↔ X t)) (c : Nat) (l : List Nat)
    (hn : l.Nodup) (hl : ∀ s, s ∈ l ↔ s < d.length ∧ C.of s = (c : Int) ∧ X s) (h0 : 0 < l.length) (hlt : l.length < (C.row c).length) : HInv d O R (C.split c l) ∧ (C.split c l).mem.length = C.mem.length + 1 ∧ (C.split c l).wq.length = C.wq.length + 1 := by
  obtain ⟨k1, k2, k3, k4, ⟨x, k5, k6⟩, k7, k8, k9, k10⟩ := split_ok h.ok h.wait c l hn (fun s hs => ⟨((hl s).1 hs).1, ((hl s).1 hs).2.1⟩) h0
  have hcl : ∀ y : Option Nat, (∀ u, y = some u → u < d.length) → ((C.split c l).cls y = C.cls y ∧ (∀ u, y = some u → u ∉ l)) ∨ ((C.split c l).cls y = (C.mem.length : Int) ∧ C.cls y = (c : Int)) := by
    intro y _
    cases y with
    | none => exact .inl ⟨rfl, fun u e => by cases e⟩
    | some u =>
      have := k4 u
      by_cases hu : u ∈ l
      · rw [if_pos hu] at this
        exact .inr ⟨this, ((hl u).1 hu).2.1⟩
      · rw [if_neg hu] at this
        exact .inl ⟨this, fun v e => by cases e; exact hu⟩
  have hr : ∀ y : Option Nat, (∀ u, y = some u → u < d.length) → C.cls y < (C.mem.length : Int) := by
    intro y hy
    cases y with
    | none => show (-1 : Int) < _; omega
    | some u =>
      show C.of u < _
      rcases h.ok.range (hy u rfl) with e | ⟨c2, e, h2, _⟩ <;> omega
  have hmono : ∀ s t, s < d.length → t < d.length → (C.split c l).of s = (C.split c l).of t → C.of s = C.of t := by
    intro s t hs ht e
    have h1 := hr (some s) (fun u e => by cases e; exact hs)
    have h2 := hr (some t) (fun u e => by cases e; exact ht)
    change C.of s < _ at h1
    change C.of t < _ at h2
    rw [k4, k4] at e
    by_cases e1 : s ∈ l <;> by_cases e2 : t ∈ l
    · rw [((hl s).1 e1).2.1, ((hl t).1 e2).2.1]
    · rw [if_pos e1, if_neg e2] at e; omega
    · rw [if_neg e1, if_pos e2] at e; omega
    · rw [if_neg e1, if_neg e2] at e; exact e
  have hpos : ∀ s, s < d.length → 0 ≤ (C.split c l).of s → 0 ≤ C.of s := by
    intro s hs e
    rw [k4] at e
    by_cases e1 : s ∈ l
    · have := ((hl s).1 e1).2.1; omega
    · rw [if_neg e1] at e; exact e
  refine ⟨⟨h.rows, k1, k2, ?_, ?_, ?_, ?_, ?_⟩, k3, by rw [k5]; simp⟩
  · intro s t hs ht he
    have h1 := h.sound s t hs ht he
    have h2 := hX s t hs ht he
    rw [k4, k4]
    have : s ∈ l ↔ t ∈ l := by rw [hl, hl, h1, h2]; exact ⟨fun e => ⟨ht, e.2⟩, fun e => ⟨hs, e.2⟩⟩
    by_cases e : s ∈ l
    · rw [if_pos e, if_pos (this.1 e)]
    · rw [if_neg e, if_neg (fun e2 => e (this.2 e2)), h1]
  · intro s hs
    rw [← h.dead s hs, k4]
    by_cases e : s ∈ l
    · rw [if_pos e, ((hl s).1 e).2.1]
      constructor <;> intro <;> omega
    · rw [if_neg e]
  · intro s t hs ht e e2
    exact h.fin s t hs ht (hmono s t hs ht e) (hpos s hs e2)
  · intro s t a hs ht e e2 hw hR
    have hms := hmono s t hs ht e
    have hps := hpos s hs e2
    have hsr : ∀ u, (ofL d).step s a = some u → u < d.length := fun u hu => ofL_in h.rows hu
    have htr : ∀ u, (ofL d).step t a = some u → u < d.length := fun u hu => ofL_in h.rows hu
    have hold := h.stab s t a hs ht hms hps (fun c0 hc0 => ?_) hR
    · rcases hcl _ hsr with ⟨p1, p1'⟩ | ⟨p1, p2⟩ <;> rcases hcl _ htr with ⟨q1, q1'⟩ | ⟨q1, q2⟩
      · rw [p1, q1, hold]
      · -- t goes into the new class, s stays in the old one
        exfalso
        rw [q2] at hold
        have hx := hw x (by rw [k5]; simp)
        rw [p1, q1, hold] at hx
        rcases k6 with rfl | ⟨rfl, _⟩
        · have := hx.2 rfl; omega
        · have := hx.1 rfl; omega
      · exfalso
        rw [p2] at hold
        have hx := hw x (by rw [k5]; simp)
        rw [p1, q1, ← hold] at hx
        rcases k6 with rfl | ⟨rfl, _⟩
        · have := hx.1 rfl; omega
        · have := hx.2 rfl; omega
      · rw [p1, q1]
    · -- the classes that waited
      have hlt0 := h.wait.lt hc0
      have h1 := hw c0 (by rw [k5]; simp [hc0])
      have r1 := hr _ hsr
      have r2 := hr _ htr
      by_cases hcc : c0 = c
      · subst hcc
        have hx := hw x (by rw [k5]; simp)
        rcases k6 with rfl | ⟨rfl, k6⟩
        · rcases hcl _ hsr with ⟨p1, p1'⟩ | ⟨p1, p2⟩ <;> rcases hcl _ htr with ⟨q1, q1'⟩ | ⟨q1, q2⟩
          · rw [p1, q1] at h1; exact h1
          · rw [p1, q1] at hx
            have := hx.2 rfl; omega
          · rw [p1, q1] at hx
            have := hx.1 rfl; omega
          · rw [p2, q2]
        · exact absurd hc0 k6
      · rcases hcl _ hsr with ⟨p1, p1'⟩ | ⟨p1, p2⟩ <;> rcases hcl _ htr with ⟨q1, q1'⟩ | ⟨q1, q2⟩
        · rw [p1, q1] at h1; exact h1
        · rw [p1, q1] at h1
          rw [q2, h1]
          constructor <;> intro <;> omega
        · rw [p1, q1] at h1
          rw [p2, ← h1]
          constructor <;> intro <;> omega
        · rw [p2, q2]
  · intro c' hc' h1
    rw [k3] at hc'
    rw [k7]
    by_cases e : c' = C.mem.length
    · rw [if_pos e]
      intro e2
      rw [e2] at h0
      simp at h0
    · rw [if_neg e]
      by_cases e2 : c' = c
      · subst e2
        intro e3
        rw [e3] at k8
        simp at k8
        omega
      · rw [k9 c' e2]
        exact h.ne c' (by omega) h1
end Au
end Go.Proofs.YthhfmcikfdagiaaDoor

/-
  Classes of states that take the same: how it begins, goes on and ends; the walk over classes makes the least automaton.
-/
namespace Go.Proofs.YthhfmcikfdagiaaDoor
namespace Au

/-- A class waits no longer. -/
def Cls.pop (C : Cls) (q : List Nat) (c : Nat) : Cls := { C with waits := C.waits.set c false, wq := q }
theorem HInv.pop {d : List St} {O : Option Nat → Prop} {C : Cls} (h : HInv d O (fun _ => False) C) (q : List Nat) (c : Nat) (hq : C.wq = q ++ [c]) (R : Nat → Prop) (hR : ∀ a s, s < d.length → ¬ R a → C.cls ((ofL d).step s a) ≠ (c : Int)) :
    HInv d (fun x => C.cls x = (c : Int)) R (C.pop q c) := by
  have hnd := h.wait.nodup
  rw [hq, List.nodup_append] at hnd
  have hcq : c ∉ q := fun e => hnd.2.2 c e c (by simp) rfl
  refine ⟨h.rows, ⟨h.ok.mem, h.ok.of⟩, ⟨by simp [Cls.pop, h.wait.len], fun x => ?_, hnd.1⟩, h.sound, h.dead, h.fin, ?_, h.ne⟩
  · show x ∈ q ↔ (C.waits.set c false)[x]? = some true
    have h1 := h.wait.wq x
    rw [hq, List.mem_append, List.mem_singleton] at h1
    rw [List.getElem?_set]
    by_cases e : c = x
    · subst e
      rw [if_pos rfl]
      constructor
      · intro k; exact absurd k hcq
      · intro k
        split at k <;> cases k
    · rw [if_neg e, ← h1]
      constructor
      · exact .inl
      · rintro (k | k)
        · exact k
        · exact absurd k.symm e
  · intro s t a hs ht e e2 hw hO
    refine h.stab s t a hs ht e e2 (fun c0 hc0 => ?_) (fun k => k.elim)
    rw [hq, List.mem_append, List.mem_singleton] at hc0
    rcases hc0 with hc0 | rfl
    · exact hw c0 hc0
    · by_cases hr : R a
      · exact hO hr
      · exact ⟨fun k => absurd k (hR a s hs hr), fun k => absurd k (hR a t ht hr)⟩
theorem HInv.next {d : List St} {O O' : Option Nat → Prop} {R R' : Nat → Prop} {C : Cls} (h : HInv d O R C) (hO : ∀ x, O x ↔ O' x)
    (hR : ∀ a, R a → ¬ R' a → ∀ s t, s < d.length → t < d.length → C.of s = C.of t → 0 ≤ C.of s → (O ((ofL d).step s a) ↔ O ((ofL d).step t a))) : HInv d O' R' C := by
  refine ⟨h.rows, h.ok, h.wait, h.sound, h.dead, h.fin, ?_, h.ne⟩
  intro s t a hs ht e e2 hw h1
  refine h.stab s t a hs ht e e2 hw fun k => ?_
  by_cases hr : R' a
  · have := h1 hr
    rw [← hO, ← hO] at this
    exact this
  · exact hR a k hr s t hs ht e e2
/-- What leads to a class leads alike from states that take the same. -/
theorem HInv.lead_eqv {d : List St} {O : Option Nat → Prop} {R : Nat → Prop} {C : Cls} (h : HInv d O R C) (c : Nat) (a s t : Nat) (he : Eqv (ofL d) (ofL d) s t) :
    (C.cls ((ofL d).step s a) = (c : Int) ↔ C.cls ((ofL d).step t a) = (c : Int)) := by
  have main : ∀ s t, Eqv (ofL d) (ofL d) s t → C.cls ((ofL d).step s a) = (c : Int) → C.cls ((ofL d).step t a) = (c : Int) := by
    intro s t he k
    cases hs : (ofL d).step s a with
    | none => rw [hs] at k; exact absurd k (by show ¬ (-1 : Int) = _; omega)
    | some u =>
      rw [hs] at k
      have hu := ofL_in h.rows hs
      have hnd : ¬ Dead (ofL d) (some u) := fun e => by
        have := (h.dead u hu).2 e
        change C.of u = _ at k
        omega
      cases ht : (ofL d).step t a with
      | none =>
        exact absurd (fun w => by
          have := he.next a w
          rw [hs, ht, acc_none] at this
          exact this) hnd
      | some v =>
        have : Eqv (ofL d) (ofL d) u v := fun w => by
          have := he.next a w
          rwa [hs, ht] at this
        have e := h.sound u v hu (ofL_in h.rows ht) this
        show C.of v = _
        rw [← e]
        exact k
  exact ⟨main s t he, main t s he.symm⟩
theorem HInv.lt {d : List St} {O : Option Nat → Prop} {R : Nat → Prop} {C : Cls} (h : HInv d O R C) {s : Nat} (hs : s < d.length) : C.of s = -1 ∨ (0 ≤ C.of s ∧ C.of s < (C.mem.length : Int)) := by
  rcases h.ok.range hs with e | ⟨c, e, h1, _⟩
  · exact .inl e
  · exact .inr (by omega)

/-- In the end states of one class take the same. -/
theorem HInv.eqv {d : List St} {O : Option Nat → Prop} {C : Cls} (h : HInv d O (fun _ => False) C) (hq : C.wq = []) (s t : Nat) (hs : s < d.length) (ht : t < d.length) (e : C.of s = C.of t) : Eqv (ofL d) (ofL d) s t := by
  intro w
  have key : ∀ w (x y : Option Nat), (∀ u, x = some u → u < d.length) → (∀ u, y = some u → u < d.length) → C.cls x = C.cls y → (ofL d).acc x w = (ofL d).acc y w := by
    intro w
    induction w with
    | nil =>
      intro x y hx hy e
      have hd : ∀ z : Option Nat, (∀ u, z = some u → u < d.length) → C.cls z = -1 → (ofL d).acc z [] = false := by
        intro z hz ez
        cases z with
        | none => exact acc_none _ _
        | some u => exact (h.dead u (hz u rfl)).1 ez []
      by_cases ex : C.cls x = -1
      · rw [hd x hx ex, hd y hy (by rw [← e, ex])]
      · cases x with
        | none => exact absurd rfl ex
        | some u =>
          cases y with
          | none => exact absurd (e.trans rfl) ex
          | some v =>
            have hu := hx u rfl
            have := h.lt hu
            exact h.fin u v hu (hy v rfl) e (by rcases this with k | k; exact absurd k ex; exact k.1)
    | cons a w ih =>
      intro x y hx hy e
      have hd : ∀ z : Option Nat, (∀ u, z = some u → u < d.length) → C.cls z = -1 → (ofL d).acc z (a :: w) = false := by
        intro z hz ez
        cases z with
        | none => exact acc_none _ _
        | some u => exact (h.dead u (hz u rfl)).1 ez (a :: w)
      by_cases ex : C.cls x = -1
      · rw [hd x hx ex, hd y hy (by rw [← e, ex])]
      · cases x with
        | none => exact absurd rfl ex
        | some u =>
          cases y with
          | none => exact absurd (e.trans rfl) ex
          | some v =>
            have hu := hx u rfl
            have hv := hy v rfl
            have hp : 0 ≤ C.of u := by rcases h.lt hu with k | k; exact absurd k ex; exact k.1
            rw [acc_cons, acc_cons]
            refine ih _ _ (fun z hz => ofL_in h.rows hz) (fun z hz => ofL_in h.rows hz) ?_
            exact h.stab u v a hu hv e hp (fun c hc => by rw [hq] at hc; cases hc) (fun k => k.elim)
  exact key w (some s) (some t) (fun u k => by cases k; exact hs) (fun u k => by cases k; exact ht) e

/-- The walk over classes: each goes as its first state does. -/
def quo (d : List St) (C : Cls) : Walk Nat where
  go := fun c b => match (ofL d).step ((C.row c).getD 0 0) b with
    | none => none
    | some t => if C.of t = -1 then none else some (C.of t).toNat
  same := fun a b => decide (a = b)
  fin := fun c => (ofL d).fin ((C.row c).getD 0 0)
theorem quo_refl (d : List St) (C : Cls) (s : Nat) : (quo d C).same s s = true := decide_eq_true rfl
theorem HInv.rep {d : List St} {O : Option Nat → Prop} {R : Nat → Prop} {C : Cls} (h : HInv d O R C) {s c : Nat} (hs : s < d.length) (e : C.of s = (c : Int)) : (C.row c).getD 0 0 < d.length ∧ C.of ((C.row c).getD 0 0) = (c : Int) ∧ 0 < (C.row c).length := by
  have hm := h.ok.row_mem hs e
  cases hr : C.row c with
  | nil => rw [hr] at hm; cases hm
  | cons x r =>
    have := h.ok.mem_row (c := c) (s := x) (by rw [hr]; exact List.mem_cons_self ..)
    exact ⟨this.1, this.2, by simp⟩
theorem quo_alike {d : List St} {O : Option Nat → Prop} {C : Cls} (h : HInv d O (fun _ => False) C) (hq : C.wq = []) : Alike (ofL d).walk (quo d C) (fun s c => s < d.length ∧ C.of s = (c : Int)) where
  fin := fun s c ⟨hs, e⟩ => by
    obtain ⟨r1, r2, _⟩ := h.rep hs e
    exact h.fin s _ hs r1 (by rw [e, r2]) (by omega)
  go := fun s c ⟨hs, e⟩ b => by
    obtain ⟨r1, r2, _⟩ := h.rep hs e
    have he := h.eqv hq s _ hs r1 (by rw [e, r2])
    have hg : ∀ t, (ofL d).go ((C.row c).getD 0 0) b = some t → (quo d C).go c b = some (C.of t).toNat ∧ t < d.length ∧ 0 ≤ C.of t := by
      intro t ht
      obtain ⟨h1, h2⟩ := go_some ht
      have hl := ofL_in h.rows h1
      have : C.of t ≠ -1 := fun e => h2 ((h.dead t hl).1 e)
      refine ⟨?_, hl, by rcases h.lt hl with k | k; exact absurd k this; exact k.1⟩
      show (match (ofL d).step ((C.row c).getD 0 0) b with | none => none | some t => if C.of t = -1 then none else some (C.of t).toNat) = _
      rw [h1]
      dsimp only
      rw [if_neg this]
    have hn : (ofL d).go ((C.row c).getD 0 0) b = none → (quo d C).go c b = none := by
      intro ht
      have hd := go_none ht
      show (match (ofL d).step ((C.row c).getD 0 0) b with | none => none | some t => if C.of t = -1 then none else some (C.of t).toNat) = _
      cases hs2 : (ofL d).step ((C.row c).getD 0 0) b with
      | none => rfl
      | some t =>
        dsimp only
        rw [hs2] at hd
        rw [if_pos ((h.dead t (ofL_in h.rows hs2)).2 hd)]
    rcases go_eqv he b with ⟨g1, g2⟩ | ⟨s', t', g1, g2, g3⟩
    · exact .inl ⟨g1, hn g2⟩
    · right
      obtain ⟨k1, k2, k3⟩ := hg t' g2
      have hs' := ofL_in h.rows (go_some g1).1
      have := h.sound s' t' hs' k2 g3
      exact ⟨s', _, g1, k1, hs', by omega⟩
  same := fun s c s' c' ⟨hs, e⟩ ⟨hs', e'⟩ => by
    show (ofL d).same s s' = decide (c = c')
    by_cases k : c = c'
    · subst k
      rw [decide_eq_true rfl]
      exact (same_iff _ _ _).2 (h.eqv hq s s' hs hs' (by rw [e, e']))
    · rw [decide_eq_false k, ← Bool.not_eq_true, same_iff]
      intro e2
      have := h.sound s s' hs hs' e2
      omega
/-- The classes' walk makes the least automaton. -/
theorem quo_least {d : List St} (hf : Fits d) {O : Option Nat → Prop} {C : Cls} (h : HInv d O (fun _ => False) C) (hq : C.wq = []) (c : Nat) (hc : C.of 0 = (c : Int)) : (quo d C).Done c d.length ∧ (quo d C).out c d.length = least d ∧ ∀ i, ((quo d C).met c i).length ≤ d.length := by
  have ha := quo_alike h hq
  have hst := fun i => ha.states (s := 0) (t := c) ⟨hf.pos, hc⟩ i
  have hl : ∀ i, ((quo d C).met c i).length = ((ofL d).walk.met 0 i).length := fun i => ((hst i).1.length).symm
  have hd := least_done hf.pos hf.row
  have hd2 : (quo d C).Done c d.length := by
    unfold Walk.Done at *
    rw [hl]
    exact hd
  refine ⟨hd2, ((hst d.length).2).symm, fun i => ?_⟩
  have := met_le (quo d C) c i d.length hd2
  unfold Walk.Done at hd2
  omega
/-- Told till the end. -/
theorem quo_end {d : List St} (hf : Fits d) {O : Option Nat → Prop} {C : Cls} (h : HInv d O (fun _ => False) C) (hq : C.wq = []) (c : Nat) (hc : C.of 0 = (c : Int)) (i : Nat) (hi : ((quo d C).met c i).length ≤ i) : (quo d C).out c i = least d := by
  obtain ⟨h1, h2, _⟩ := quo_least hf h hq c hc
  rw [← h2]
  unfold Walk.out
  rw [done_same (quo d C) c i d.length hi h1]

/-- Something is taken: there is a final state. -/
theorem alive_fin {d : List St} (hr : ∀ i (h : i < d.length), Row d.length 256 d[i].arcs) (s : Nat) (hs : s < d.length) (h : ¬ Dead (ofL d) (some s)) : ∃ t, t < d.length ∧ (ofL d).fin t = true := by
  apply Classical.byContradiction
  intro hn
  apply h
  intro w
  have key : ∀ w (x : Option Nat), (∀ u, x = some u → u < d.length) → (ofL d).acc x w = false := by
    intro w
    induction w with
    | nil =>
      intro x hx
      cases x with
      | none => rfl
      | some u =>
        rw [acc_nil, ← Bool.not_eq_true]
        exact fun e => hn ⟨u, hx u rfl, e⟩
    | cons a w ih =>
      intro x hx
      cases x with
      | none => rfl
      | some u =>
        rw [acc_cons]
        exact ih _ fun v hv => ofL_in hr hv
  exact key w (some s) fun u e => by cases e; exact hs
/-- The first classes: final states, others from which one is reached. -/
noncomputable def finals (d : List St) : List Nat := (List.range d.length).filter (fun i => (ofL d).fin i)
open Classical in
noncomputable def others (d : List St) : List Nat := (List.range d.length).filter (fun i => !(ofL d).fin i && !decide (Dead (ofL d) (some i)))
def Cls.none : Cls := ⟨fun _ => -1, fun _ => 0, [], [], []⟩
noncomputable def begun (d : List St) : Cls := ((((Cls.none.found (finals d)).wait 0).found (others d)).wait 1)
theorem begun_inv {d : List St} (hf : Fits d) (h0 : ¬ Dead (ofL d) (some 0)) (O : Option Nat → Prop) : HInv d O (fun _ => False) (begun d) := by
  have hfm : ∀ s, s ∈ finals d ↔ s < d.length ∧ (ofL d).fin s = true := fun s => by simp [finals, List.mem_filter]
  have hom : ∀ s, s ∈ others d ↔ s < d.length ∧ (ofL d).fin s = false ∧ ¬ Dead (ofL d) (some s) := fun s => by simp [others, List.mem_filter]
  have hnf : (finals d).Nodup := List.Nodup.sublist List.filter_sublist List.nodup_range
  have hno : (others d).Nodup := List.Nodup.sublist List.filter_sublist List.nodup_range
  have a0 : OkBut d.length Cls.none (finals d) := ⟨fun c i s h => by simp [Cls.none, Cls.row] at h, fun s _ _ => .inl rfl⟩
  have a1 := found_ok a0 (finals d) hnf (fun _ => Iff.rfl) fun s hs => ((hfm s).1 hs).1
  have w0 : WaitOk Cls.none := ⟨rfl, fun c => by simp [Cls.none], by simp [Cls.none]⟩
  have w1 := wait_wait (found_wait w0 (finals d)) 0 (by simp [Cls.found, Cls.none]) (by simp [Cls.found, Cls.none])
  have w2 := wait_wait (found_wait w1 (others d)) 1 (by simp [Cls.found, Cls.none, Cls.wait]) (by simp [Cls.found, Cls.none, Cls.wait])
  have e1 : ((Cls.none.found (finals d)).wait 0).mem.length = 1 := by simp [Cls.found, Cls.none, Cls.wait]
  have row1 : ∀ c, ((Cls.none.found (finals d)).wait 0).row c = if c = 0 then finals d else [] := fun c => by
    show (Cls.none.found (finals d)).row c = _
    rw [found_row]
    rfl
  have a2 : OkBut d.length ((Cls.none.found (finals d)).wait 0) (others d) := by
    refine ⟨fun c i s hs => ?_, fun s hs hs2 => ?_⟩
    · obtain ⟨h1, h2, h3, _⟩ := a1.mem c i s hs
      refine ⟨h1, h2, h3, fun e => ?_⟩
      rw [row1] at hs
      split at hs
      · obtain ⟨hl, he⟩ := List.getElem?_eq_some_iff.1 hs
        have := (hfm s).1 (he ▸ List.getElem_mem hl)
        have := (hom s).1 e
        simp_all
      · cases hs
    · exact a1.of s hs (by simp)
  have a3 := found_ok a2 (others d) hno (fun _ => Iff.rfl) fun s hs => ((hom s).1 hs).1
  have hof : ∀ s, (begun d).of s = if s ∈ others d then 1 else if s ∈ finals d then 0 else -1 := fun s => by
    show (if s ∈ others d then (((Cls.none.found (finals d)).wait 0).mem.length : Int) else if s ∈ finals d then ((0 : Nat) : Int) else -1) = _
    rw [e1]
    rfl
  have hofr : ∀ s, s < d.length → ((begun d).of s = 1 ∧ (ofL d).fin s = false ∧ ¬ Dead (ofL d) (some s)) ∨ ((begun d).of s = 0 ∧ (ofL d).fin s = true) ∨ ((begun d).of s = -1 ∧ (ofL d).fin s = false ∧ Dead (ofL d) (some s)) := by
    intro s hs
    rw [hof]
    by_cases h1 : s ∈ others d
    · rw [if_pos h1]; exact .inl ⟨rfl, ((hom s).1 h1).2⟩
    · rw [if_neg h1]
      by_cases h2 : s ∈ finals d
      · rw [if_pos h2]; exact .inr (.inl ⟨rfl, ((hfm s).1 h2).2⟩)
      · rw [if_neg h2]
        have h3 : (ofL d).fin s = false := by
          rw [← Bool.not_eq_true]
          exact fun e => h2 ((hfm s).2 ⟨hs, e⟩)
        refine .inr (.inr ⟨rfl, h3, ?_⟩)
        apply Classical.byContradiction
        intro h4
        exact h1 ((hom s).2 ⟨hs, h3, h4⟩)
  have hfd : ∀ s, (ofL d).fin s = true → ¬ Dead (ofL d) (some s) := fun s e k => by
    have := k []
    rw [acc_nil, e] at this
    cases this
  have hlen : (begun d).mem.length = 2 := by simp [begun, Cls.found, Cls.none, Cls.wait]
  refine ⟨hf.row, ⟨a3.mem, a3.of⟩, w2, ?_, ?_, ?_, ?_, ?_⟩
  · intro s t hs ht he
    have h1 := he.fin
    have h2 : Dead (ofL d) (some s) ↔ Dead (ofL d) (some t) := ⟨fun k w => by rw [← he w]; exact k w, fun k w => by rw [he w]; exact k w⟩
    rcases hofr s hs with ⟨k1, k2, k3⟩ | ⟨k1, k2⟩ | ⟨k1, k2, k3⟩ <;> rcases hofr t ht with ⟨j1, j2, j3⟩ | ⟨j1, j2⟩ | ⟨j1, j2, j3⟩ <;> first | (rw [k1, j1]; done) | (exfalso; rw [k2, j2] at h1; exact absurd h1 (by decide)) | (exfalso; exact k3 (h2.2 j3)) | (exfalso; exact j3 (h2.1 k3))
  · intro s hs
    rcases hofr s hs with ⟨k1, k2, k3⟩ | ⟨k1, k2⟩ | ⟨k1, k2, k3⟩
    · rw [k1]; exact ⟨fun e => by omega, fun e => absurd e k3⟩
    · rw [k1]; exact ⟨fun e => by omega, fun e => absurd e (hfd s k2)⟩
    · exact ⟨fun _ => k3, fun _ => k1⟩
  · intro s t hs ht e e2
    rcases hofr s hs with ⟨k1, k2, k3⟩ | ⟨k1, k2⟩ | ⟨k1, k2, k3⟩ <;> rcases hofr t ht with ⟨j1, j2, j3⟩ | ⟨j1, j2⟩ | ⟨j1, j2, j3⟩ <;> first | (exfalso; omega) | (rw [k2, j2]; done)
  · intro s t a hs ht e e2 hw _
    have hq : (begun d).wq = [0, 1] := rfl
    have h0 := hw 0 (by rw [hq]; simp)
    have h1 := hw 1 (by rw [hq]; simp)
    have hr : ∀ x : Option Nat, (∀ u, x = some u → u < d.length) → (begun d).cls x = -1 ∨ (begun d).cls x = 0 ∨ (begun d).cls x = 1 := by
      intro x hx
      cases x with
      | none => exact .inl rfl
      | some u => rcases hofr u (hx u rfl) with k | k | k <;> simp [Cls.cls, k.1]
    have r1 := hr ((ofL d).step s a) fun u hu => ofL_in hf.row hu
    have r2 := hr ((ofL d).step t a) fun u hu => ofL_in hf.row hu
    simp only [Int.natCast_zero, Int.natCast_one] at h0 h1
    omega
  · intro c hc h1
    rw [hlen] at hc
    obtain rfl : c = 0 := by omega
    have : (begun d).row 0 = finals d := by
      show ((((Cls.none.found (finals d)).wait 0).found (others d)).row 0) = _
      rw [found_row, e1, if_neg (by omega), row1, if_pos rfl]
    rw [this]
    obtain ⟨t, ht, hft⟩ := alive_fin hf.row 0 hf.pos h0
    intro e
    have := (hfm t).2 ⟨ht, hft⟩
    rw [e] at this
    cases this
end Au
end Go.Proofs.YthhfmcikfdagiaaDoor

/-
  Arcs that lead by a byte; bytes cut into stretches by which the same arcs lead.
-/
namespace Go.Proofs.YthhfmcikfdagiaaDoor
namespace Au

/-- Does an arc hold a byte? -/
def Arc.holds (a : Arc) (c : Nat) : Bool := decide (a.lo ≤ (c : Int)) && decide ((c : Int) ≤ a.hi)
theorem holds_iff (a : Arc) (c : Nat) : a.holds c = true ↔ a.lo ≤ (c : Int) ∧ (c : Int) ≤ a.hi := by simp [Arc.holds]
/-- Where arcs lead by a byte. -/
def hits (A : List Arc) (c : Nat) : List Int := (A.filter (fun a => a.holds c)).map (fun a => a.to)
theorem hits_cons (a : Arc) (A : List Arc) (c : Nat) : hits (a :: A) c = if a.holds c = true then a.to :: hits A c else hits A c := by
  unfold hits
  rw [List.filter_cons]
  split <;> rfl
theorem hits_append (A B : List Arc) (c : Nat) : hits (A ++ B) c = hits A c ++ hits B c := by simp [hits]
theorem mem_hits (A : List Arc) (c : Nat) (x : Int) : x ∈ hits A c ↔ ∃ a ∈ A, (a.lo ≤ (c : Int) ∧ (c : Int) ≤ a.hi) ∧ a.to = x := by
  unfold hits
  rw [List.mem_map]
  constructor
  · rintro ⟨a, ha, h⟩
    obtain ⟨h1, h2⟩ := List.mem_filter.1 ha
    exact ⟨a, h1, (holds_iff a c).1 h2, h⟩
  · rintro ⟨a, ha, h1, h2⟩
    exact ⟨a, List.mem_filter.2 ⟨ha, (holds_iff a c).2 h1⟩, h2⟩
/-- A stretch of bytes, and where they lead. -/
structure Strch where
  lo : Nat
  hi : Nat
  to : List Int
/-- The stretches of arcs from byte c on, rising. -/
def Cut (A : List Arc) : Nat → List Strch → Prop
  | c, [] => ∀ x, c ≤ x → x < 256 → hits A x = []
  | c, g :: r => c ≤ g.lo ∧ g.lo ≤ g.hi ∧ g.hi < 256 ∧ g.to ≠ [] ∧ (∀ x, c ≤ x → x < g.lo → hits A x = []) ∧ (∀ x, g.lo ≤ x → x ≤ g.hi → hits A x = g.to) ∧ Cut A (g.hi + 1) r
/-- Stretches side by side, from byte c to the last. -/
def Beside (A : List Arc) : Nat → List Strch → Prop
  | c, [] => c = 256
  | c, g :: r => g.lo = c ∧ g.lo ≤ g.hi ∧ g.hi < 256 ∧ (∀ x, g.lo ≤ x → x ≤ g.hi → hits A x = g.to) ∧ Beside A (g.hi + 1) r
theorem cut_back (A : List Arc) (S : List Strch) (c c' : Nat) (hc : c ≤ c') (h : ∀ x, c ≤ x → x < c' → hits A x = []) (hS : Cut A c' S) : Cut A c S := by
  cases S with
  | nil =>
    intro x h1 h2
    by_cases e : x < c'
    · exact h x h1 e
    · exact hS x (by omega) h2
  | cons g r =>
    obtain ⟨h1, h2, h3, h4, h5, h6, h7⟩ := hS
    refine ⟨by omega, h2, h3, h4, fun x k1 k2 => ?_, h6, h7⟩
    by_cases e : x < c'
    · exact h x k1 e
    · exact h5 x (by omega) k2
/-- Those that lead somewhere. -/
theorem beside_cut (A : List Arc) (S : List Strch) : ∀ c, Beside A c S → Cut A c (S.filter (fun g => !g.to.isEmpty)) := by
  induction S with
  | nil =>
    intro c h x h1 h2
    have : c = 256 := h
    omega
  | cons g r ih =>
    intro c h
    obtain ⟨h1, h2, h3, h4, h5⟩ := h
    rw [List.filter_cons]
    by_cases e : g.to = []
    · have : (!g.to.isEmpty) = false := by rw [e]; rfl
      rw [this]
      exact cut_back A _ c (g.hi + 1) (by omega) (fun x k1 k2 => by rw [h4 x (by omega) (by omega), e]) (ih _ h5)
    · have : (!g.to.isEmpty) = true := by
        cases hg : g.to with
        | nil => exact absurd hg e
        | cons _ _ => rfl
      rw [this]
      exact ⟨by omega, h2, h3, e, fun x k1 k2 => by omega, h4, ih _ h5⟩
theorem Cut.few {A : List Arc} {S : List Strch} : ∀ {c : Nat}, c ≤ 256 → Cut A c S → S.length + c ≤ 256 := by
  induction S with
  | nil => intro c hc _; simpa using hc
  | cons g r ih =>
    intro c hc h
    obtain ⟨h1, h2, h3, _, _, _, h6⟩ := h
    have := ih (by omega) h6
    simp only [List.length_cons]
    omega
/-- What each stretch is. -/
theorem Cut.each {A : List Arc} {S : List Strch} : ∀ {c : Nat}, Cut A c S → ∀ g ∈ S, c ≤ g.lo ∧ g.lo ≤ g.hi ∧ g.hi < 256 ∧ g.to ≠ [] ∧ ∀ x, g.lo ≤ x → x ≤ g.hi → hits A x = g.to := by
  induction S with
  | nil => intro c _ g hg; cases hg
  | cons g0 r ih =>
    intro c h g hg
    obtain ⟨h1, h2, h3, h4, h5, h6, h7⟩ := h
    rcases List.mem_cons.1 hg with rfl | hg
    · exact ⟨h1, h2, h3, h4, h6⟩
    · obtain ⟨k1, k2⟩ := ih h7 g hg
      exact ⟨by omega, k2⟩
theorem Cut.none {A : List Arc} {S : List Strch} : ∀ {c : Nat}, Cut A c S → ∀ x, c ≤ x → x < 256 → (∀ g ∈ S, ¬ (g.lo ≤ x ∧ x ≤ g.hi)) → hits A x = [] := by
  induction S with
  | nil => intro c h x h1 h2 _; exact h x h1 h2
  | cons g0 r ih =>
    intro c h x k1 k2 k3
    obtain ⟨h1, h2, h3, h4, h5, h6, h7⟩ := h
    by_cases e : x < g0.lo
    · exact h5 x k1 e
    · have := k3 g0 (List.mem_cons_self ..)
      exact ih h7 x (by omega) k2 fun g hg => k3 g (List.mem_cons_of_mem _ hg)
/-- Stretches as leads. -/
theorem cut_leads {σ : Type} (W : Walk σ) (s : σ) (A : List Arc) (f : List Int → σ) (hn : ∀ x, x < 256 → hits A x = [] → W.go s x = none) (hs : ∀ x, x < 256 → hits A x ≠ [] → W.go s x = some (f (hits A x))) (S : List Strch) :
    ∀ c, Cut A c S → Leads W s c (S.map fun g => ⟨g.lo, g.hi, f g.to⟩) := by
  induction S with
  | nil => intro c h x h1 h2; exact hn x h2 (h x h1 h2)
  | cons g r ih =>
    intro c h
    obtain ⟨h1, h2, h3, h4, h5, h6, h7⟩ := h
    refine ⟨h1, h2, h3, fun x k1 k2 => hn x (by dsimp only at k2; omega) (h5 x k1 k2), fun x k1 k2 => ?_, ih _ h7⟩
    have := h6 x k1 k2
    have h8 := hs x (by dsimp only at k2; omega) (by rw [this]; exact h4)
    rw [this] at h8
    exact h8

/-! ### bytes counted by where a stretch begins -/
/-- How many stretches begin behind byte 0, up to a byte. -/
def cnt (b : Nat → Bool) : Nat → Nat
  | 0 => 0
  | c + 1 => cnt b c + if b (c + 1) = true then 1 else 0
theorem cnt_mono (b : Nat → Bool) (c e : Nat) : cnt b c ≤ cnt b (c + e) := by
  induction e with
  | zero => exact Nat.le_refl _
  | succ e ih =>
    have : cnt b (c + (e + 1)) = cnt b (c + e) + if b (c + e + 1) = true then 1 else 0 := rfl
    rw [this]
    omega
theorem cnt_le (b : Nat → Bool) {c e : Nat} (h : c ≤ e) : cnt b c ≤ cnt b e := by
  obtain ⟨k, rfl⟩ : ∃ k, e = c + k := ⟨e - c, by omega⟩
  exact cnt_mono b c k
/-- An arc whose ends begin stretches holds whole stretches. -/
theorem holds_cnt (b : Nat → Bool) (a : Arc) (h0 : 0 ≤ a.lo) (h1 : a.lo ≤ a.hi) (hb1 : a.lo.toNat = 0 ∨ b a.lo.toNat = true) (hb2 : b (a.hi.toNat + 1) = true) (x : Nat) :
    a.holds x = true ↔ cnt b a.lo.toNat ≤ cnt b x ∧ cnt b x ≤ cnt b a.hi.toNat := by
  rw [holds_iff]
  constructor
  · rintro ⟨k1, k2⟩
    exact ⟨cnt_le b (by omega), cnt_le b (by omega)⟩
  · rintro ⟨k1, k2⟩
    constructor
    · apply Classical.byContradiction
      intro hc
      obtain ⟨l, hl⟩ : ∃ l, a.lo.toNat = l + 1 := ⟨a.lo.toNat - 1, by omega⟩
      rcases hb1 with e | e
      · omega
      · rw [hl] at e k1
        simp only [cnt, e, if_true] at k1
        have := cnt_le b (show x ≤ l by omega)
        omega
    · apply Classical.byContradiction
      intro hc
      have h3 := cnt_le b (show a.hi.toNat + 1 ≤ x by omega)
      simp only [cnt, hb2, if_true] at h3
      omega
/-- The stretches that are made up to a byte, and what is said of each. -/
structure Segs (b : Nat → Bool) (c : Nat) (Z : List (Nat × Nat)) : Prop where
  len : Z.length = if c = 0 then 0 else cnt b (c - 1) + 1
  each : ∀ k (h : k < Z.length), Z[k].1 ≤ Z[k].2 ∧ Z[k].2 < c ∧ ∀ x, x < c → (cnt b x = k ↔ Z[k].1 ≤ x ∧ x ≤ Z[k].2)
theorem segs_zero (b : Nat → Bool) : Segs b 0 [] := ⟨rfl, fun k h => by simp at h⟩
/-- A byte more begins a stretch. -/
theorem segs_new {b : Nat → Bool} {c : Nat} {Z : List (Nat × Nat)} (h : Segs b c Z) (hb : c = 0 ∨ b c = true) : Segs b (c + 1) (Z ++ [(c, c)]) ∧ cnt b c = Z.length := by
  have hl : cnt b c = Z.length := by
    rw [h.len]
    cases c with
    | zero => rfl
    | succ c =>
      rcases hb with e | e
      · omega
      · simp [cnt, e]
  refine ⟨⟨?_, fun k hk => ?_⟩, hl⟩
  · rw [List.length_append, if_neg (by omega), Nat.add_sub_cancel, hl]
    rfl
  · rw [List.length_append] at hk
    by_cases e : k < Z.length
    · rw [List.getElem_append_left e]
      obtain ⟨h1, h2, h3⟩ := h.each k e
      refine ⟨h1, by omega, fun x hx => ?_⟩
      by_cases ex : x = c
      · subst ex
        rw [hl]
        constructor <;> intro <;> omega
      · exact h3 x (by omega)
    · have e' : k = Z.length := by simp at hk; omega
      subst e'
      simp only [List.getElem_append_right (Nat.le_refl _), Nat.sub_self, List.getElem_cons_zero]
      refine ⟨Nat.le_refl _, by omega, fun x hx => ?_⟩
      by_cases ex : x = c
      · subst ex
        rw [hl]
        exact ⟨fun _ => ⟨Nat.le_refl _, Nat.le_refl _⟩, fun _ => rfl⟩
      · constructor
        · intro k
          exfalso
          cases c with
          | zero => omega
          | succ c =>
            have h1 := cnt_le b (show x ≤ c by omega)
            have h2 := h.len
            simp only [Nat.add_eq_zero_iff, Nat.succ_ne_self, Nat.add_sub_cancel, if_false, and_false] at h2
            omega
        · rintro ⟨k1, k2⟩; omega
/-- A byte more goes on. -/
theorem segs_more {b : Nat → Bool} {c : Nat} {Z : List (Nat × Nat)} (h : Segs b c Z) (h0 : c ≠ 0) (hb : b c = false) : ∃ Y z, Z = Y ++ [z] ∧ Segs b (c + 1) (Y ++ [(z.1, c)]) ∧ cnt b c + 1 = Z.length := by
  obtain ⟨p, rfl⟩ : ∃ p, c = p + 1 := ⟨c - 1, by omega⟩
  have hlen := h.len
  rw [if_neg (by omega), Nat.add_sub_cancel] at hlen
  have hcp : cnt b (p + 1) = cnt b p := by simp [cnt, hb]
  rcases List.eq_nil_or_concat Z with e | ⟨Y, z, e⟩
  · rw [e] at hlen; simp at hlen
  · rw [List.concat_eq_append] at e
    subst e
    rw [List.length_append] at hlen
    simp only [List.length_cons, List.length_nil] at hlen
    have hYl : Y.length = cnt b p := by omega
    refine ⟨Y, z, rfl, ⟨?_, fun k hk => ?_⟩, by rw [List.length_append, hcp, hYl]; rfl⟩
    · rw [List.length_append, if_neg (by omega), Nat.add_sub_cancel, hcp, hYl]
      rfl
    · rw [List.length_append] at hk
      simp only [List.length_cons, List.length_nil] at hk
      by_cases e : k < Y.length
      · rw [List.getElem_append_left e]
        obtain ⟨h1, h2, h3⟩ := h.each k (by rw [List.length_append]; omega)
        rw [List.getElem_append_left e] at h1 h2 h3
        refine ⟨h1, by omega, fun x hx => ?_⟩
        by_cases ex : x = p + 1
        · subst ex
          rw [hcp]
          constructor <;> intro <;> omega
        · exact h3 x (by omega)
      · have e' : k = Y.length := by omega
        subst e'
        obtain ⟨h1, h2, h3⟩ := h.each Y.length (by rw [List.length_append]; simp)
        simp only [List.getElem_append_right (Nat.le_refl _), Nat.sub_self, List.getElem_cons_zero] at h1 h2 h3 ⊢
        have hz2 : z.2 = p := by
          have := (h3 p (by omega)).1 hYl.symm
          omega
        refine ⟨by omega, by omega, fun x hx => ?_⟩
        by_cases ex : x = p + 1
        · subst ex
          rw [hcp]
          exact ⟨fun _ => ⟨by omega, Nat.le_refl _⟩, fun _ => hYl.symm⟩
        · rw [h3 x (by omega)]
          constructor <;> rintro ⟨k1, k2⟩ <;> constructor <;> omega
/-- All bytes are told: the stretches stand side by side. -/
theorem segs_beside {b : Nat → Bool} {Z : List (Nat × Nat)} (h : Segs b 256 Z) (A : List Arc) (T : List (List Int)) (hT : T.length = Z.length) (ht : ∀ k (hk : k < T.length) x, x < 256 → cnt b x = k → hits A x = T[k]) :
    Beside A 0 ((List.range Z.length).map fun k => ⟨(Z.getD k (0, 0)).1, (Z.getD k (0, 0)).2, T.getD k []⟩) := by
  have hlen : Z.length = cnt b 255 + 1 := by
    have := h.len
    rwa [if_neg (by omega)] at this
  have hlo : ∀ k (hk : k < Z.length), cnt b Z[k].1 = k ∧ cnt b Z[k].2 = k := fun k hk => by
    obtain ⟨h1, h2, h3⟩ := h.each k hk
    exact ⟨(h3 _ (by omega)).2 ⟨Nat.le_refl _, h1⟩, (h3 _ (by omega)).2 ⟨h1, Nat.le_refl _⟩⟩
  have main : ∀ m k, k + m = Z.length → Beside A (if hk : k < Z.length then Z[k].1 else 256) ((List.range' k m).map fun k => ⟨(Z.getD k (0, 0)).1, (Z.getD k (0, 0)).2, T.getD k []⟩) := by
    intro m
    induction m with
    | zero =>
      intro k hk
      rw [dif_neg (by omega)]
      rfl
    | succ m ih =>
      intro k hk
      have hkl : k < Z.length := by omega
      obtain ⟨h1, h2, h3⟩ := h.each k hkl
      rw [dif_pos hkl, List.range'_succ, List.map_cons]
      have e1 : Z.getD k (0, 0) = Z[k] := by simp [List.getD, hkl]
      have e2 : T.getD k [] = T[k]'(by omega) := by simp [List.getD, hT, hkl]
      rw [e1, e2]
      refine ⟨rfl, h1, h2, fun x k1 k2 => ht k (by omega) x (by dsimp only at k2; omega) ((h3 x (by dsimp only at k2; omega)).2 ⟨k1, k2⟩), ?_⟩
      have := ih (k + 1) (by omega)
      have e3 : (if hk : k + 1 < Z.length then Z[k + 1].1 else 256) = Z[k].2 + 1 := by
        by_cases e : k + 1 < Z.length
        · rw [dif_pos e]
          obtain ⟨g1, g2, g3⟩ := h.each (k + 1) e
          have l1 := hlo k hkl
          have l2 := hlo (k + 1) e
          have lt1 : Z[k].2 < Z[k + 1].1 := by
            apply Classical.byContradiction
            intro hc
            have := cnt_le b (show Z[k + 1].1 ≤ Z[k].2 by omega)
            omega
          apply Classical.byContradiction
          intro hc
          have a1 := cnt_le b (show Z[k].2 ≤ Z[k].2 + 1 by omega)
          have a2 := cnt_le b (show Z[k].2 + 1 ≤ Z[k + 1].1 by omega)
          have hx : Z[k].2 + 1 < 256 := by omega
          rcases Nat.lt_or_ge (cnt b (Z[k].2 + 1)) (k + 1) with q | q
          · have := (h3 (Z[k].2 + 1) hx).1 (by omega)
            omega
          · have := (g3 (Z[k].2 + 1) hx).1 (by omega)
            omega
        · rw [dif_neg e]
          have l1 := hlo k hkl
          have := (h3 255 (by omega)).1 (by omega)
          omega
      rw [e3] at this
      exact this
  have := main Z.length 0 (by omega)
  have hZ : 0 < Z.length := by omega
  rw [dif_pos hZ, ← List.range_eq_range'] at this
  have h0 : Z[0].1 = 0 := by
    have := ((h.each 0 hZ).2.2 0 (by omega)).1 rfl
    omega
  rw [h0] at this
  exact this
end Au
end Go.Proofs.YthhfmcikfdagiaaDoor

/-
  The arcs that lead to each state, plainly; from where bytes lead into a class.
-/
namespace Go.Proofs.YthhfmcikfdagiaaDoor
namespace Au

def arcsOf (d : List St) (i : Nat) : List Arc := match d[i]? with
  | some s => s.arcs
  | none => []
/-- The arcs of state i that lead to t, each with i as where it leads. -/
def backRow (l : List Arc) (t i : Nat) : List Arc := (l.filter (fun a => decide (a.to = (t : Int)))).map (fun a => ⟨a.lo, a.hi, (i : Int)⟩)
def back (d : List St) (t : Nat) : List Arc := (List.range d.length).flatMap fun i => backRow (arcsOf d i) t i
/-- So far: all states below i, and the first k arcs of state i. -/
def backTo (d : List St) (i k t : Nat) : List Arc := ((List.range i).flatMap fun j => backRow (arcsOf d j) t j) ++ backRow ((arcsOf d i).take k) t i
theorem backTo_zero (d : List St) (t : Nat) : backTo d 0 0 t = [] := rfl
theorem backTo_step (d : List St) (i k t : Nat) (h : k < (arcsOf d i).length) : backTo d i (k + 1) t = if (arcsOf d i)[k].to = (t : Int) then backTo d i k t ++ [⟨(arcsOf d i)[k].lo, (arcsOf d i)[k].hi, (i : Int)⟩] else backTo d i k t := by
  unfold backTo backRow
  rw [List.take_succ_eq_append_getElem h, List.filter_append, List.map_append, ← List.append_assoc]
  by_cases e : (arcsOf d i)[k].to = (t : Int)
  · rw [if_pos e]
    simp [e]
  · rw [if_neg e]
    simp [e]
theorem backTo_row (d : List St) (i t : Nat) : backTo d i (arcsOf d i).length t = backTo d (i + 1) 0 t := by
  unfold backTo
  rw [List.take_length, List.range_succ, List.flatMap_append]
  simp [backRow]
theorem backTo_all (d : List St) (t : Nat) : backTo d d.length 0 t = back d t := by
  unfold backTo back
  simp [backRow]
theorem backTo_len (d : List St) (i k t : Nat) : (backTo d i k t).length ≤ ((List.range i).flatMap fun j => arcsOf d j).length + k := by
  unfold backTo
  rw [List.length_append]
  have h1 : ∀ l : List Arc, ∀ t j, (backRow l t j).length ≤ l.length := fun l t j => by
    unfold backRow
    rw [List.length_map]
    exact List.length_filter_le _ _
  have h2 : ∀ i, ((List.range i).flatMap fun j => backRow (arcsOf d j) t j).length ≤ ((List.range i).flatMap fun j => arcsOf d j).length := by
    intro i
    induction i with
    | zero => simp
    | succ i ih =>
      rw [List.range_succ, List.flatMap_append, List.flatMap_append, List.length_append, List.length_append]
      have := h1 (arcsOf d i) t i
      simp only [List.flatMap_cons, List.flatMap_nil, List.append_nil]
      omega
  have h3 := h1 ((arcsOf d i).take k) t i
  have h4 := h2 i
  have h5 := List.length_take_le k (arcsOf d i)
  omega
theorem Row.tail {n : Nat} {c : Int} {a : Arc} {r : List Arc} (h : Row n c (a :: r)) : Row n c r ∧ (0 ≤ a.lo ∧ a.lo ≤ a.hi ∧ a.hi < c ∧ 0 ≤ a.to ∧ a.to < n) ∧ ∀ x ∈ r, a.hi < x.lo := by
  refine ⟨⟨fun k hk => ?_, fun k hk => ?_⟩, ?_, ?_⟩
  · have := h.1 (k + 1) (by simp; omega)
    simpa using this
  · have := h.2 (k + 1) (by simp; omega)
    simpa using this
  · have := h.1 0 (by simp)
    simpa using this
  · have main : ∀ k (hk : k < r.length), a.hi < r[k].lo := by
      intro k
      induction k with
      | zero =>
        intro hk
        have := h.2 0 (by simp; omega)
        simpa using this
      | succ k ih =>
        intro hk
        have h1 := ih (by omega)
        have h2 := h.2 (k + 1) (by simp; omega)
        have h3 := h.1 (k + 1) (by simp; omega)
        simp only [List.getElem_cons_succ] at h2 h3
        omega
    intro x hx
    obtain ⟨k, hk, rfl⟩ := List.getElem_of_mem hx
    exact main k hk
theorem hits_backRow {n : Nat} {c : Int} (l : List Arc) (t i b : Nat) (h : Row n c l) : hits (backRow l t i) b = if look l (b : Int) = some (t : Int) then [(i : Int)] else [] := by
  induction l with
  | nil => rfl
  | cons a r ih =>
    obtain ⟨h1, h2, h3⟩ := h.tail
    have hno : a.lo ≤ (b : Int) ∧ (b : Int) ≤ a.hi → hits (backRow r t i) b = [] := by
      intro ⟨k1, k2⟩
      rw [List.eq_nil_iff_forall_not_mem]
      intro x hx
      obtain ⟨y, hy, ⟨y1, y2⟩, _⟩ := (mem_hits _ _ _).1 hx
      unfold backRow at hy
      obtain ⟨z, hz, rfl⟩ := List.mem_map.1 hy
      have := h3 z (List.mem_filter.1 hz).1
      dsimp only at y1
      omega
    have e : backRow (a :: r) t i = (if a.to = (t : Int) then [⟨a.lo, a.hi, (i : Int)⟩] else []) ++ backRow r t i := by
      unfold backRow
      rw [List.filter_cons]
      by_cases k : a.to = (t : Int) <;> simp [k]
    rw [e, hits_append]
    have hl : look (a :: r) (b : Int) = if a.lo ≤ (b : Int) ∧ (b : Int) ≤ a.hi then some a.to else look r (b : Int) := rfl
    by_cases hb : a.lo ≤ (b : Int) ∧ (b : Int) ≤ a.hi
    · rw [if_pos hb] at hl
      rw [hl, hno hb, List.append_nil]
      by_cases k : a.to = (t : Int)
      · rw [if_pos k, if_pos (by rw [k]), hits_cons, if_pos ((holds_iff ⟨a.lo, a.hi, (i : Int)⟩ b).2 hb)]
        rfl
      · rw [if_neg k, if_neg (fun e => k (by injection e))]
        rfl
    · rw [if_neg hb] at hl
      rw [hl, ih h1]
      have : hits (if a.to = (t : Int) then [(⟨a.lo, a.hi, (i : Int)⟩ : Arc)] else []) b = [] := by
        by_cases k : a.to = (t : Int)
        · rw [if_pos k, hits_cons, if_neg (fun e => hb ((holds_iff ⟨a.lo, a.hi, (i : Int)⟩ b).1 e))]
          rfl
        · rw [if_neg k]; rfl
      rw [this, List.nil_append]
theorem hits_flatMap {α : Type} (l : List α) (f : α → List Arc) (b : Nat) : hits (l.flatMap f) b = l.flatMap fun x => hits (f x) b := by
  induction l with
  | nil => rfl
  | cons x r ih => rw [List.flatMap_cons, hits_append, ih, List.flatMap_cons]
theorem look_step (d : List St) (i b t : Nat) (hr : ∀ i (h : i < d.length), Row d.length 256 d[i].arcs) : look (arcsOf d i) (b : Int) = some (t : Int) ↔ (ofL d).step i b = some t := by
  unfold arcsOf
  simp only [ofL]
  cases hd : d[i]? with
  | none => simp [look]
  | some s =>
    dsimp only
    obtain ⟨hl, rfl⟩ := List.getElem?_eq_some_iff.1 hd
    cases hx : look d[i].arcs (b : Int) with
    | none => simp
    | some u =>
      have := look_in (n := d.length) (fun k hk => by have := (hr i hl).1 k hk; omega) hx
      simp only [Option.some.injEq, Option.map_some]
      omega
theorem arcsOf_row {d : List St} (hr : ∀ i (h : i < d.length), Row d.length 256 d[i].arcs) (i : Nat) : Row d.length 256 (arcsOf d i) := by
  unfold arcsOf
  cases hd : d[i]? with
  | none => exact Row.nil _ _
  | some s =>
    obtain ⟨hl, rfl⟩ := List.getElem?_eq_some_iff.1 hd
    exact hr i hl
theorem hits_back {d : List St} (hr : ∀ i (h : i < d.length), Row d.length 256 d[i].arcs) (t b : Nat) : hits (back d t) b = (List.range d.length).flatMap fun i => if (ofL d).step i b = some t then [(i : Int)] else [] := by
  unfold back
  rw [hits_flatMap]
  congr 1
  funext i
  rw [hits_backRow _ t i b (arcsOf_row hr i)]
  by_cases h : (ofL d).step i b = some t
  · rw [if_pos h, if_pos ((look_step d i b t hr).2 h)]
  · rw [if_neg h, if_neg (fun e => h ((look_step d i b t hr).1 e))]
/-- From where a byte leads into some states. -/
theorem mem_whence {d : List St} (hr : ∀ i (h : i < d.length), Row d.length 256 d[i].arcs) (M : List Nat) (b : Nat) (x : Int) : x ∈ hits (M.flatMap (back d)) b ↔ ∃ i : Nat, x = (i : Int) ∧ i < d.length ∧ ∃ t ∈ M, (ofL d).step i b = some t := by
  rw [hits_flatMap, List.mem_flatMap]
  constructor
  · rintro ⟨t, ht, hx⟩
    rw [hits_back hr, List.mem_flatMap] at hx
    obtain ⟨i, hi, hx⟩ := hx
    split at hx
    · rename_i h
      rw [List.mem_singleton] at hx
      exact ⟨i, hx, List.mem_range.1 hi, t, ht, h⟩
    · cases hx
  · rintro ⟨i, rfl, hi, t, ht, h⟩
    refine ⟨t, ht, ?_⟩
    rw [hits_back hr, List.mem_flatMap]
    exact ⟨i, List.mem_range.2 hi, by rw [if_pos h]; exact List.mem_singleton.2 rfl⟩
theorem whence_nodup {d : List St} (hr : ∀ i (h : i < d.length), Row d.length 256 d[i].arcs) (M : List Nat) (hM : M.Nodup) (b : Nat) : (hits (M.flatMap (back d)) b).Nodup := by
  rw [hits_flatMap]
  unfold List.Nodup at *
  rw [List.pairwise_flatMap]
  refine ⟨fun t _ => ?_, hM.imp fun {t u} htu x hx y hy => ?_⟩
  · rw [hits_back hr, List.pairwise_flatMap]
    refine ⟨fun i _ => ?_, List.nodup_range.imp fun {i j} hij x hx y hy => ?_⟩
    · split <;> simp
    · split at hx
      · split at hy
        · rw [List.mem_singleton] at hx hy
          omega
        · cases hy
      · cases hx
  · rw [hits_back hr, List.mem_flatMap] at hx hy
    obtain ⟨i, _, hx⟩ := hx
    obtain ⟨j, _, hy⟩ := hy
    split at hx
    · rename_i h1
      split at hy
      · rename_i h2
        rw [List.mem_singleton] at hx hy
        intro e
        have : i = j := by omega
        subst this
        rw [h1] at h2
        cases h2
        exact htu rfl
      · cases hy
    · cases hx
end Au
end Go.Proofs.YthhfmcikfdagiaaDoor

/-
  The program's isPlace, mayBe, rise, Check, Step.
-/
namespace Go.Proofs.YthhfmcikfdagiaaDoor
open Go.RowKit
/-- A cell of a new block. -/
theorem cell_at (w : World) (cs : List Value) (e : TypeId) (j : Nat) (u : Value) (h : cs[j]? = some u) : (w.alloc (.cells cs.toArray e)).cell? ⟨w.heap.size, j, none⟩ = some u := by
  have := new_cells w cs e j u h
  rwa [Addr.add_lit, Nat.zero_add] at this
namespace Au
/-- An arc as mayBe asks for it. -/
def fine (n : Nat) (a : Arc) : Prop := 0 ≤ a.lo ∧ a.hi ≤ 255 ∧ a.lo ≤ a.hi ∧ 0 ≤ a.to ∧ a.to < n
instance (n : Nat) (a : Arc) : Decidable (fine n a) := by unfold fine; exact inferInstance
/-- Are all? -/
def fines (n : Nat) (l : List Arc) : Bool := decide (∀ a ∈ l, fine n a)
theorem fines_true {n : Nat} {l : List Arc} (h : ∀ a ∈ l, fine n a) : fines n l = true := decide_eq_true h
theorem fines_false {n : Nat} {l : List Arc} (h : ¬ ∀ a ∈ l, fine n a) : fines n l = false := decide_eq_false h
/-- Do arcs rise, each above what is ahead? -/
def rises : Int → List Arc → Prop
  | _, [] => True
  | x, a :: r => x < a.lo ∧ rises a.hi r
instance rises_dec : (x : Int) → (l : List Arc) → Decidable (rises x l)
  | _, [] => isTrue trivial
  | x, a :: r => by
    unfold rises
    have := rises_dec a.hi r
    exact inferInstance
theorem row_fine (n : Nat) (l : List Arc) : Row n 256 l ↔ (∀ a ∈ l, fine n a) ∧ rises (-1) l := by
  have key : ∀ (l : List Arc) (x : Int), (∀ a ∈ l, fine n a) → (rises x l ↔ (∀ h : 0 < l.length, x < l[0].lo) ∧ ∀ k (h : k + 1 < l.length), l[k].hi < l[k + 1].lo) := by
    intro l
    induction l with
    | nil => intro x _; simp [rises]
    | cons a r ih =>
      intro x hf
      have := ih a.hi (fun b hb => hf b (List.mem_cons_of_mem _ hb))
      constructor
      · rintro ⟨h1, h2⟩
        obtain ⟨k1, k2⟩ := this.1 h2
        refine ⟨fun _ => h1, fun k hk => ?_⟩
        cases k with
        | zero => exact k1 (by simpa using hk)
        | succ k => exact k2 k (by simpa using hk)
      · rintro ⟨h1, h2⟩
        refine ⟨h1 (by simp), this.2 ⟨fun h => ?_, fun k hk => ?_⟩⟩
        · exact h2 0 (by simpa using h)
        · exact h2 (k + 1) (by simpa using hk)
  constructor
  · intro h
    have hf : ∀ a ∈ l, fine n a := fun a ha => by
      obtain ⟨k, hk, rfl⟩ := List.getElem_of_mem ha
      have := h.1 k hk
      unfold fine
      omega
    refine ⟨hf, (key l (-1) hf).2 ⟨fun h0 => ?_, h.2⟩⟩
    have := h.1 0 h0
    omega
  · rintro ⟨hf, hr⟩
    obtain ⟨_, h2⟩ := (key l (-1) hf).1 hr
    refine ⟨fun k hk => ?_, h2⟩
    have := hf l[k] (List.getElem_mem hk)
    unfold fine at this
    omega
end Au

set_option maxRecDepth 100000 in
set_option maxHeartbeats 1000000 in
theorem isPlace_any (w : World) (i n : Int) :
    Calls Tryd.prog 27 #[.int .i64 i, .int .i64 n] w fun e w' => e = .returned (.bool (decide (0 ≤ i ∧ i < n))) ∧ w = w' := by
  by_cases h1 : 0 ≤ i
  · by_cases h2 : i < n
    · have e : decide (0 ≤ i ∧ i < n) = true := decide_eq_true ⟨h1, h2⟩
      rw [e]
      have d1 : decide (0 ≤ i) = true := decide_eq_true h1
      clear e
      go_enter Tryd.func27, Tryd.ntmps27
      go_wp2_with fail
      go_ret
      exact ⟨rfl, rfl⟩
    · have e : decide (0 ≤ i ∧ i < n) = false := decide_eq_false fun h => h2 h.2
      rw [e]
      have d1 : decide (0 ≤ i) = true := decide_eq_true h1
      clear e
      go_enter Tryd.func27, Tryd.ntmps27
      go_wp2_with fail
      go_ret
      exact ⟨rfl, rfl⟩
  · have e : decide (0 ≤ i ∧ i < n) = false := decide_eq_false fun h => h1 h.1
    rw [e]
    have d1 : decide (0 ≤ i) = false := decide_eq_false h1
    clear e
    go_enter Tryd.func27, Tryd.ntmps27
    go_wp2_with fail
    go_ret
    exact ⟨rfl, rfl⟩
end Go.Proofs.YthhfmcikfdagiaaDoor

/-
  The program's mayBe and rise.
-/
namespace Go.Proofs.YthhfmcikfdagiaaDoor
open Go.RowKit

set_option maxRecDepth 100000 in
set_option maxHeartbeats 4000000 in
theorem mayBe_any (F : Nat → Prop) (w : World) (v : Value) (l : List Au.Arc) (n : Nat) (hv : ArcS F w v l) :
    Calls Tryd.prog 25 #[v, .int .i64 (n : Int)] w fun e w' => e = .returned (.bool (Au.fines n l)) ∧ Below w.heap.size w w' := by
  obtain ⟨a, cap, rfl, hc1, hc2, hc⟩ := hv
  have hgood : (∀ a ∈ l, Au.fine n a) → Au.fines n l = true := fun h => Au.fines_true h
  have hbad : ∀ k (hk : k < l.length), ¬ Au.fine n l[k] → Au.fines n l = false := fun k hk h => Au.fines_false fun e => h (e _ (List.getElem_mem hk))
  generalize Au.fines n l = r at *
  obtain ⟨m, hm⟩ : ∃ m, m = l.length := ⟨_, rfl⟩
  have hm2 : m ≤ 9223372036854775807 := by omega
  have HM := Lib.hid hm
  have HC := Lib.hid hc
  have HG := Lib.hid hgood
  have HB := Lib.hid hbad
  rw [← hm]
  clear hc hc1 hgood hbad hm
  go_enter Tryd.func25, Tryd.ntmps25
  go_wp2_with fail
  go_loopg [9] m (fun gg vi wx => ∃ i : Nat, i ≤ m ∧ gg = m - i ∧ vi = .int .i64 i ∧ Hid (∀ j (h : j < l.length), j < i → Au.fine n l[j]) ∧ Below w.heap.size w wx)
  case atStart => exact ⟨0, Nat.zero_le _, rfl, rfl, fun j _ h => by omega, Below.refl _ _⟩
  case round =>
    obtain ⟨k, hk, rfl, rfl, hS, hbel⟩ := hrel
    by_cases hkm : k < m
    · have kl : k < l.length := by rw [← HM.out]; exact hkm
      obtain ⟨g2, o2, rfl, hg2, _, hcl2⟩ := HC.out (by omega)
      obtain ⟨d1, d2, d3⟩ := hcl2 k kl
      have e1 := (hbel.cell (p := ⟨g2, o2 + k * 3, none⟩) hg2).trans d1
      have e2 := (hbel.cell (p := ⟨g2, o2 + k * 3 + 1, none⟩) hg2).trans d2
      have e3 := (hbel.cell (p := ⟨g2, o2 + k * 3 + 2, none⟩) hg2).trans d3
      have hA : Hid (¬ Au.fine n l[k] → r = false) := HB.out k kl
      have hst2 : Hid (Au.fine n l[k] → ∀ j (h : j < l.length), j < k + 1 → Au.fine n l[j]) := fun h j hj h2 => by
        by_cases e : j = k
        · subst e; exact h
        · exact hS.out j hj (by omega)
      have j2 : (k : Int) < (m : Int) := by omega
      have HBE : Hid (∀ o, Below w.heap.size w (wr.alloc o)) := fun o => hbel.alloc hbel.size o
      clear hcl2 d1 d2 d3 hS hbel
      generalize l[k] = x at *
      obtain ⟨lo, hi', to⟩ := x
      dsimp only at e1 e2 e3
      by_cases q1 : lo < 0
      · have f1 : decide (lo < 0) = true := decide_eq_true q1
        obtain rfl : r = false := hA.out fun h => by unfold Au.fine at h; dsimp only at h; omega
        clear hA hst2
        go_wp2_with fail
        go_ret
        exact ⟨rfl, HBE.out _⟩
      have f1 : decide (lo < 0) = false := decide_eq_false q1
      by_cases q2 : 255 < hi'
      · have f2 : decide (255 < hi') = true := decide_eq_true q2
        obtain rfl : r = false := hA.out fun h => by unfold Au.fine at h; dsimp only at h; omega
        clear hA hst2
        go_wp2_with fail
        go_ret
        exact ⟨rfl, HBE.out _⟩
      have f2 : decide (255 < hi') = false := decide_eq_false q2
      by_cases q3 : hi' < lo
      · have f3 : decide (hi' < lo) = true := decide_eq_true q3
        obtain rfl : r = false := hA.out fun h => by unfold Au.fine at h; dsimp only at h; omega
        clear hA hst2
        go_wp2_with fail
        go_ret
        exact ⟨rfl, HBE.out _⟩
      have f3 : decide (hi' < lo) = false := decide_eq_false q3
      have HP : Hid (∀ W, Calls Tryd.prog 27 #[.int .i64 to, .int .i64 (n : Int)] W fun e w' => e = .returned (.bool (decide (0 ≤ to ∧ to < (n : Int)))) ∧ W = w') := fun W => isPlace_any W to n
      by_cases q4 : 0 ≤ to ∧ to < (n : Int)
      · have f4 : decide (0 ≤ to ∧ to < (n : Int)) = true := decide_eq_true q4
        rw [f4] at HP
        have hS2 := hst2.out (by unfold Au.fine; dsimp only; omega)
        have HS2 := Lib.hid hS2
        clear hA hst2 hS2 f4
        go_wp2_with (go_at_call 27; refine (HP.out _).mono ?_; rintro e w' ⟨rfl, rfl⟩)
        go_roundg (m - (k + 1))
        case rel => exact ⟨k + 1, by omega, rfl, by go_num, HS2, HBE.out _⟩
        case measure => omega
      · have f4 : decide (0 ≤ to ∧ to < (n : Int)) = false := decide_eq_false q4
        rw [f4] at HP
        obtain rfl : r = false := hA.out fun h => by unfold Au.fine at h; dsimp only at h; omega
        clear hA hst2 f4 q4
        go_wp2_with (go_at_call 27; refine (HP.out _).mono ?_; rintro e w' ⟨rfl, rfl⟩)
        go_ret
        exact ⟨rfl, HBE.out _⟩
    · obtain rfl : k = m := by omega
      obtain rfl : r = true := HG.out fun a ha => by
        obtain ⟨j, hj, rfl⟩ := List.getElem_of_mem ha
        exact hS.out j hj (by rw [HM.out]; exact hj)
      have HBE := Lib.hid hbel
      clear hS hbel
      go_wp2_with fail
      go_ret
      exact ⟨rfl, HBE.out⟩

set_option maxRecDepth 100000 in
set_option maxHeartbeats 4000000 in
theorem rise_any (F : Nat → Prop) (w : World) (v : Value) (l : List Au.Arc) (hv : ArcS F w v l) :
    Calls Tryd.prog 26 #[v] w fun e w' => e = .returned (.bool (decide (Au.rises (-1) l))) ∧ Below w.heap.size w w' := by
  obtain ⟨a, cap, rfl, hc1, hc2, hc⟩ := hv
  obtain ⟨r, hr⟩ : ∃ r, decide (Au.rises (-1) l) = r := ⟨_, rfl⟩
  obtain ⟨m, hm⟩ : ∃ m, m = l.length := ⟨_, rfl⟩
  have hm2 : m ≤ 9223372036854775807 := by omega
  have HM := Lib.hid hm
  have HC := Lib.hid hc
  have HR : Hid (decide (Au.rises (-1) (l.drop 0)) = r) := hr
  rw [hr, ← hm]
  clear hc hc1 hm hr
  go_enter Tryd.func26, Tryd.ntmps26
  go_wp2_with fail
  go_loopg [3, 8] m (fun gg va vi wx => ∃ (i : Nat) (x : Int), i ≤ m ∧ gg = m - i ∧ va = .int .i64 x ∧ vi = .int .i64 i ∧ Hid (decide (Au.rises x (l.drop i)) = r) ∧ Below w.heap.size w wx)
  case atStart => exact ⟨0, -1, Nat.zero_le _, rfl, rfl, rfl, HR, Below.refl _ _⟩
  case round =>
    obtain ⟨k, x, hk, rfl, rfl, rfl, hS, hbel⟩ := hrel
    by_cases hkm : k < m
    · have kl : k < l.length := by rw [← HM.out]; exact hkm
      obtain ⟨g2, o2, rfl, hg2, _, hcl2⟩ := HC.out (by omega)
      obtain ⟨d1, d2, d3⟩ := hcl2 k kl
      have e1 := (hbel.cell (p := ⟨g2, o2 + k * 3, none⟩) hg2).trans d1
      have e2 := (hbel.cell (p := ⟨g2, o2 + k * 3 + 1, none⟩) hg2).trans d2
      have e3 := (hbel.cell (p := ⟨g2, o2 + k * 3 + 2, none⟩) hg2).trans d3
      have hA : Hid (decide (x < l[k].lo ∧ Au.rises l[k].hi (l.drop (k + 1))) = r) := by
        have h := hS.out
        rw [List.drop_eq_getElem_cons kl] at h
        exact h
      have j2 : (k : Int) < (m : Int) := by omega
      have HBE : Hid (∀ o, Below w.heap.size w (wr.alloc o)) := fun o => hbel.alloc hbel.size o
      clear hcl2 d1 d2 d3 hS hbel
      generalize l[k] = y at *
      obtain ⟨lo, hi', to⟩ := y
      dsimp only at e1 e2 e3 hA
      by_cases q1 : lo ≤ x
      · obtain rfl : false = r := by
          have h := hA.out
          rw [decide_eq_false (fun e => by have := e.1; omega)] at h
          exact h
        clear hA
        go_wp2_with fail
        go_ret
        exact ⟨rfl, HBE.out _⟩
      · have hB : Hid (decide (Au.rises hi' (l.drop (k + 1))) = r) := by
          have h := hA.out
          by_cases q : Au.rises hi' (l.drop (k + 1))
          · rw [decide_eq_true (⟨by omega, q⟩ : x < lo ∧ Au.rises hi' (l.drop (k + 1)))] at h
            show _ = _
            rw [← h]
            exact decide_eq_true q
          · rw [decide_eq_false (fun e => q e.2)] at h
            show _ = _
            rw [← h]
            exact decide_eq_false q
        clear hA
        go_wp2_with fail
        go_roundg (m - (k + 1))
        case rel => exact ⟨k + 1, _, by omega, rfl, rfl, by go_num, hB, HBE.out _⟩
        case measure => omega
    · obtain rfl : k = m := by omega
      obtain rfl : true = r := by
        have h := hS.out
        rw [List.drop_of_length_le (by rw [← HM.out]; exact Nat.le_refl _)] at h
        rw [← h]
        exact (decide_eq_true trivial).symm
      have HBE := Lib.hid hbel
      clear hS hbel
      go_wp2_with fail
      go_ret
      exact ⟨rfl, HBE.out⟩
end Go.Proofs.YthhfmcikfdagiaaDoor

/-
  The program's Check and Step.
-/
namespace Go.Proofs.YthhfmcikfdagiaaDoor
open Go.RowKit

set_option maxRecDepth 100000 in
set_option maxHeartbeats 4000000 in
theorem checkP_any (F : Nat → Prop) (w : World) (v : Value) (d : List Au.St) (hv : StS F w v d) :
    Calls Tryd.prog 13 #[v] w fun e w' => e = .returned (.int .i64 (Au.check d)) ∧ Below w.heap.size w w' := by
  have hMB : Hid (∀ i (h : i < d.length) W va, Below w.heap.size w W → ArcS F W va d[i].arcs → Calls Tryd.prog 25 #[va, .int .i64 (d.length : Int)] W fun e w' => e = .returned (.bool (Au.fines d.length d[i].arcs)) ∧ Below W.heap.size W w') := fun i h W va hb ha => mayBe_any F W va _ _ ha
  have hRI : Hid (∀ i (h : i < d.length) W va, Below w.heap.size w W → ArcS F W va d[i].arcs → Calls Tryd.prog 26 #[va] W fun e w' => e = .returned (.bool (decide (Au.rises (-1) d[i].arcs))) ∧ Below W.heap.size W w') := fun i h W va hb ha => rise_any F W va _ ha
  obtain ⟨a, cap, rfl, hc1, hc2, hc⟩ := hv
  by_cases h0 : d.length = 0
  · have hr : Au.check d = 1 := by unfold Au.check; rw [if_pos h0]
    rw [hr]
    have i0 : ((d.length : Int) == 0) = true := beq_iff_eq.2 (by omega)
    clear hr hc h0 hMB hRI
    go_enter Tryd.func13, Tryd.ntmps13
    go_wp2_with fail
    go_ret
    exact ⟨rfl, Below.refl _ _⟩
  have i0 : ((d.length : Int) == 0) = false := beq_eq_false_iff_ne.2 (by omega)
  by_cases h1 : 20000 < d.length
  · have hr : Au.check d = 8 := by unfold Au.check; rw [if_neg h0, if_pos h1]
    rw [hr]
    have i1 : (20000 : Int) < (d.length : Int) := by omega
    clear hr hc h0 h1 hMB hRI
    go_enter Tryd.func13, Tryd.ntmps13
    go_wp2_with fail
    go_ret
    exact ⟨rfl, Below.refl _ _⟩
  have i1 : ¬ (20000 : Int) < (d.length : Int) := by omega
  obtain ⟨g, o, rfl, hg, hF, hcl⟩ := hc (by omega)
  have hok : ∀ i (h : i < d.length), Au.okAt d.length d i ↔ (∀ a ∈ d[i].arcs, Au.fine d.length a) ∧ Au.rises (-1) d[i].arcs := fun i h => by
    rw [Au.okAt_of h, Au.row_iff, Au.row_fine]
  have hgood : (∀ i, i < d.length → Au.okAt d.length d i) → Au.check d = 0 := fun h => by unfold Au.check; rw [if_neg h0, if_neg h1, if_pos h]
  have hbad : ∀ i, i < d.length → ¬ Au.okAt d.length d i → Au.check d = 3 := fun i hi h => by unfold Au.check; rw [if_neg h0, if_neg h1, if_neg (fun e => h (e i hi))]
  generalize Au.check d = r at *
  obtain ⟨n, hn⟩ : ∃ n, n = d.length := ⟨_, rfl⟩
  have hn2 : n ≤ 20000 := by omega
  rw [← hn] at hgood hbad
  have HN := Lib.hid hn
  have HC := Lib.hid hcl
  have HG := Lib.hid hgood
  have HB := Lib.hid hbad
  have HOK := Lib.hid hok
  rw [← hn] at i0 i1 ⊢
  clear hc hcl hgood hbad h0 h1 hn hc1 hok
  go_enter Tryd.func13, Tryd.ntmps13
  go_wp2_with fail
  go_loopg [15] n (fun gg vi wx => ∃ i : Nat, i ≤ n ∧ gg = n - i ∧ vi = .int .i64 i ∧ Hid (∀ j, j < i → Au.okAt n d j) ∧ Below w.heap.size w wx)
  case atStart => exact ⟨0, Nat.zero_le _, rfl, rfl, fun j h => by omega, Below.refl _ _⟩
  case round =>
    obtain ⟨i, hi, rfl, rfl, hS, hbel⟩ := hrel
    by_cases hin : i < n
    · have j1 : (i : Int) < (n : Int) := by omega
      have hid : i < d.length := by rw [← HN.out]; exact hin
      obtain ⟨f0, va, c1, hva⟩ := HC.out i hid
      obtain ⟨a2, cap2, rfl, _⟩ := id hva
      obtain ⟨ln, hln⟩ : ∃ ln, d[i].arcs.length = ln := ⟨_, rfl⟩
      rw [hln] at c1 hva
      have e1 := (hbel.cell (p := ⟨g, o + i * 2 + 1, none⟩) hg).trans c1
      have e0 := (hbel.cell (p := ⟨g, o + i * 2, none⟩) hg).trans f0
      have hHB : Hid (¬ Au.okAt n d i → r = 3) := HB.out i hin
      have hst : Hid (Au.okAt n d i → ∀ j, j < i + 1 → Au.okAt n d j) := fun h j hj => by
        by_cases e : j = i
        · subst e; exact h
        · exact hS.out j (by omega)
      have hoki : Hid (Au.okAt n d i ↔ (∀ a ∈ d[i].arcs, Au.fine n a) ∧ Au.rises (-1) d[i].arcs) := by rw [HN.out]; exact HOK.out i hid
      have HBE := Lib.hid hbel
      have hm1 : Hid (∀ W, Below w.heap.size w W → Calls Tryd.prog 25 #[.slice a2 ln cap2, .int .i64 (n : Int)] W fun e w' => e = .returned (.bool (Au.fines n d[i].arcs)) ∧ Below W.heap.size W w') := fun W hb => by
        have := hMB.out i hid W _ hb (hva.below hb)
        rwa [← HN.out] at this
      have hm2 : Hid (∀ W, Below w.heap.size w W → Calls Tryd.prog 26 #[.slice a2 ln cap2] W fun e w' => e = .returned (.bool (decide (Au.rises (-1) d[i].arcs))) ∧ Below W.heap.size W w') := fun W hb => hRI.out i hid W _ hb (hva.below hb)
      have hB1 : Hid (Below w.heap.size w (wr.alloc (.cells #[.bool d[i].fin, .slice a2 ln cap2] 42))) := hbel.alloc hbel.size _
      clear hS hbel c1 hva f0 hln
      by_cases q1 : ∀ a ∈ d[i].arcs, Au.fine n a
      · have f1 : Au.fines n d[i].arcs = true := Au.fines_true q1
        rw [f1] at hm1
        by_cases q2 : Au.rises (-1) d[i].arcs
        · have f2 : decide (Au.rises (-1) d[i].arcs) = true := decide_eq_true q2
          rw [f2] at hm2
          have HS := Lib.hid (hst.out (hoki.out.2 ⟨q1, q2⟩))
          clear f1 f2 hst hoki q1 q2 hHB
          generalize d[i].fin = fi at *
          have r0 : (wr.alloc (.cells #[.bool fi, .slice a2 ln cap2] 42)).cell? ⟨wr.heap.size, 1, none⟩ = some (.slice a2 ln cap2) := cell_at wr [.bool fi, .slice a2 ln cap2] _ 1 _ rfl
          go_wp2_with (first | (go_at_call 25; refine (hm1.out _ hB1.out).mono ?_; rintro e w2 ⟨rfl, hb⟩; have hB2 : Hid (Below w.heap.size w w2) := chain hB1.out hb; have r1 := (hb.cell (p := ⟨wr.heap.size, 1, none⟩) (by simp)).trans r0; clear hb) | (go_at_call 26; refine (hm2.out _ hB2.out).mono ?_; rintro e w3 ⟨rfl, hb3⟩; have hB3 : Hid (Below w.heap.size w w3) := chain hB2.out hb3; clear hb3))
          go_roundg (n - (i + 1))
          case rel => exact ⟨i + 1, by omega, rfl, by go_num, HS, hB3.out⟩
          case measure => omega
        · have f2 : decide (Au.rises (-1) d[i].arcs) = false := decide_eq_false q2
          rw [f2] at hm2
          obtain rfl := hHB.out fun h => q2 (hoki.out.1 h).2
          clear f1 f2 hst hoki q1 q2 hHB
          generalize d[i].fin = fi at *
          have r0 : (wr.alloc (.cells #[.bool fi, .slice a2 ln cap2] 42)).cell? ⟨wr.heap.size, 1, none⟩ = some (.slice a2 ln cap2) := cell_at wr [.bool fi, .slice a2 ln cap2] _ 1 _ rfl
          go_wp2_with (first | (go_at_call 25; refine (hm1.out _ hB1.out).mono ?_; rintro e w2 ⟨rfl, hb⟩; have hB2 : Hid (Below w.heap.size w w2) := chain hB1.out hb; have r1 := (hb.cell (p := ⟨wr.heap.size, 1, none⟩) (by simp)).trans r0; clear hb) | (go_at_call 26; refine (hm2.out _ hB2.out).mono ?_; rintro e w3 ⟨rfl, hb3⟩; have hB3 : Hid (Below w.heap.size w w3) := chain hB2.out hb3; clear hb3))
          go_ret
          exact ⟨rfl, hB3.out⟩
      · have f1 : Au.fines n d[i].arcs = false := Au.fines_false q1
        rw [f1] at hm1
        obtain rfl := hHB.out fun h => q1 (hoki.out.1 h).1
        clear f1 hst hoki q1 hHB hm2
        generalize d[i].fin = fi at *
        have r0 : (wr.alloc (.cells #[.bool fi, .slice a2 ln cap2] 42)).cell? ⟨wr.heap.size, 1, none⟩ = some (.slice a2 ln cap2) := cell_at wr [.bool fi, .slice a2 ln cap2] _ 1 _ rfl
        go_wp2_with (go_at_call 25; refine (hm1.out _ hB1.out).mono ?_; rintro e w2 ⟨rfl, hb⟩; have hB2 : Hid (Below w.heap.size w w2) := chain hB1.out hb; clear hb)
        go_ret
        exact ⟨rfl, hB2.out⟩
    · obtain rfl : i = n := by omega
      obtain rfl := HG.out hS.out
      have HBE := Lib.hid hbel
      clear hS hbel
      go_wp2_with fail
      go_ret
      exact ⟨rfl, HBE.out⟩

set_option maxRecDepth 100000 in
set_option maxHeartbeats 4000000 in
theorem stepP_any (F : Nat → Prop) (w : World) (v : Value) (d : List Au.St) (s : Int) (c : Nat) (hc8 : c < 256) (hv : StS F w v d) :
    Calls Tryd.prog 14 #[v, .int .i64 s, .int .u8 (c : Int)] w fun e w' => e = .returned (.int .i64 (Au.step d s c)) ∧ Below w.heap.size w w' := by
  have HP : Hid (∀ W, Calls Tryd.prog 27 #[.int .i64 s, .int .i64 (d.length : Int)] W fun e w' => e = .returned (.bool (decide (0 ≤ s ∧ s < (d.length : Int)))) ∧ W = w') := fun W => isPlace_any W s _
  obtain ⟨a, cap, rfl, hc1, hc2, hc⟩ := hv
  by_cases hs : 0 ≤ s ∧ s < (d.length : Int)
  rotate_left
  · have hr : Au.step d s c = -1 := by unfold Au.step; rw [if_pos (by omega)]
    rw [hr]
    have f4 : decide (0 ≤ s ∧ s < (d.length : Int)) = false := decide_eq_false hs
    rw [f4] at HP
    clear hr hc f4 hs
    go_enter Tryd.func14, Tryd.ntmps14
    go_wp2_with (go_at_call 27; refine (HP.out _).mono ?_; rintro e w' ⟨rfl, rfl⟩)
    go_ret
    exact ⟨rfl, Below.refl _ _⟩
  have f4 : decide (0 ≤ s ∧ s < (d.length : Int)) = true := decide_eq_true hs
  rw [f4] at HP
  obtain ⟨i, rfl⟩ : ∃ i : Nat, s = (i : Int) := ⟨s.toNat, by omega⟩
  have hi : i < d.length := by omega
  obtain ⟨g, o, rfl, hg, hF, hcl⟩ := hc (by omega)
  obtain ⟨_, va, c1, hva⟩ := hcl i hi
  have hr : Au.step d i c = (Au.look d[i].arcs c).getD (-1) := by
    unfold Au.step
    rw [if_neg (by omega), Int.toNat_natCast, List.getElem?_eq_getElem hi]
  rw [hr]
  generalize d[i].arcs = l at *
  obtain ⟨a2, cap2, rfl, hd1, hd2, hd⟩ := hva
  obtain ⟨m, hm⟩ : ∃ m, m = l.length := ⟨_, rfl⟩
  obtain ⟨r, hr2⟩ : ∃ r, (Au.look l c).getD (-1) = r := ⟨_, rfl⟩
  have HM := Lib.hid hm
  have HR := Lib.hid hr2
  have HD := Lib.hid hd
  rw [hr2]
  rw [← hm] at c1
  have m2 : m ≤ 9223372036854775807 := by omega
  have i1 : (i : Int) < (d.length : Int) := by omega
  have cw : IntKind.i64.wrap ((c : Nat) : Int) = (c : Int) := IntWalk.i64_in _ (by omega)
  have cw2 : wrap64 ((c : Nat) : Int) = (c : Int) := IntWalk.wrap64_in _ (by omega)
  clear hr hr2 hcl hc hm hd hd1 hd2 f4 hs
  go_enter Tryd.func14, Tryd.ntmps14
  go_wp2_with (go_at_call 27; refine (HP.out _).mono ?_; rintro e w' ⟨rfl, rfl⟩)
  go_loopg [20] m (fun gg vk wx => ∃ k : Nat, k ≤ m ∧ gg = m - k ∧ vk = .int .i64 k ∧ Hid ((Au.look (l.drop k) c).getD (-1) = r) ∧ Below w.heap.size w wx)
  case atStart => exact ⟨0, Nat.zero_le _, rfl, rfl, HR.out, Below.refl _ _⟩
  case round =>
    obtain ⟨k, hk, rfl, rfl, hS, hbel⟩ := hrel
    by_cases hkm : k < m
    · have kl : k < l.length := by rw [← HM.out]; exact hkm
      obtain ⟨g2, o2, rfl, hg2, _, hcl2⟩ := HD.out (by omega)
      obtain ⟨d1, d2, d3⟩ := hcl2 k kl
      have e1 := (hbel.cell (p := ⟨g2, o2 + k * 3, none⟩) hg2).trans d1
      have e2 := (hbel.cell (p := ⟨g2, o2 + k * 3 + 1, none⟩) hg2).trans d2
      have e3 := (hbel.cell (p := ⟨g2, o2 + k * 3 + 2, none⟩) hg2).trans d3
      have hL := hS.out
      rw [Au.look_drop l k kl] at hL
      have HL := Lib.hid hL
      have j1 : (k : Int) < (m : Int) := by omega
      clear hL hcl2 d1 d2 d3 hS
      generalize l[k] = x at *
      obtain ⟨lo, hi, to⟩ := x
      dsimp only at e1 e2 e3 HL
      have HBE := Lib.hid hbel
      clear hbel
      by_cases l1 : lo ≤ (c : Int)
      · have b1 : decide (lo ≤ (c : Int)) = true := decide_eq_true l1
        by_cases l2 : (c : Int) ≤ hi
        · have hr : to = r := by
            have h := HL.out
            rw [if_pos ⟨l1, l2⟩] at h
            exact h
          subst hr
          have b2 : decide ((c : Int) ≤ hi) = true := decide_eq_true l2
          go_wp2_with fail
          go_ret
          exact ⟨rfl, HBE.out.alloc HBE.out.size _⟩
        · have hst : Hid ((Au.look (l.drop (k + 1)) c).getD (-1) = r) := by
            have h := HL.out
            rw [if_neg (fun e => l2 e.2)] at h
            exact h
          have b2 : decide ((c : Int) ≤ hi) = false := decide_eq_false l2
          clear HL
          go_wp2_with fail
          go_roundg (m - (k + 1))
          case rel => exact ⟨k + 1, by omega, rfl, by go_num, hst, HBE.out.alloc HBE.out.size _⟩
          case measure => omega
      · have hst : Hid ((Au.look (l.drop (k + 1)) c).getD (-1) = r) := by
          have h := HL.out
          rw [if_neg (fun e => l1 e.1)] at h
          exact h
        have b1 : decide (lo ≤ (c : Int)) = false := decide_eq_false l1
        clear HL
        go_wp2_with fail
        go_roundg (m - (k + 1))
        case rel => exact ⟨k + 1, by omega, rfl, by go_num, hst, HBE.out.alloc HBE.out.size _⟩
        case measure => omega
    · obtain rfl : k = m := by omega
      have hr : -1 = r := by
        have h := hS.out
        rw [List.drop_of_length_le (by rw [← HM.out]; exact Nat.le_refl _)] at h
        exact h
      subst hr
      have HBE := Lib.hid hbel
      clear hS hbel
      go_wp2_with fail
      go_ret
      exact ⟨rfl, HBE.out⟩
end Go.Proofs.YthhfmcikfdagiaaDoor

/-
  The program's Accepts and isLoose.
-/
namespace Go.Proofs.YthhfmcikfdagiaaDoor
open Go.RowKit

set_option maxRecDepth 100000 in
set_option maxHeartbeats 4000000 in
theorem acceptsP_any (F : Nat → Prop) (w : World) (v : Value) (d : List Au.St) (s : ByteArray) (hs : s.size ≤ 9223372036854775806) (hv : StS F w v d) :
    Calls Tryd.prog 9 #[v, .string s] w fun e w' => e = .returned (.bool (Au.takesL d s.data.toList)) ∧ Below w.heap.size w w' := by
  have hK := Lib.hid (checkP_any F w v d hv)
  by_cases hf : Au.Fits d
  · rw [(Au.check_iff d).2 hf] at hK
    have hr : Au.takesL d s.data.toList = (Au.ofL d).acc (some 0) (s.data.toList.map UInt8.toNat) := by unfold Au.takesL; simp [hf]
    have hP : Hid (∀ W, Below w.heap.size w W → ∀ (k c : Nat), c < 256 → Calls Tryd.prog 14 #[v, .int .i64 (k : Int), .int .u8 (c : Int)] W fun e w' => e = .returned (.int .i64 (Au.code ((Au.ofL d).step k c))) ∧ Below W.heap.size W w') := fun W hb k c hc => by
      have h := stepP_any F W v d (Au.code (some k)) c hc (hv.below hb)
      rw [Au.step_code hf] at h
      exact h
    have hlen : s.data.toList.length = s.size := Array.length_toList
    rw [hr]
    obtain ⟨r, hr2⟩ : ∃ r, (Au.ofL d).acc (some 0) (s.data.toList.map UInt8.toNat) = r := ⟨_, rfl⟩
    rw [hr2]
    have hE : Hid (∀ k, k < d.length → ∃ g o cap, v = .slice (some ⟨g, o, none⟩) d.length cap ∧ g < w.heap.size ∧ w.cell? ⟨g, o + k * 2, none⟩ = some (.bool ((Au.ofL d).fin k))) := fun k hk => by
      obtain ⟨a, cap, rfl, _, _, hc⟩ := hv
      obtain ⟨g, o, rfl, hg, _, hcl⟩ := hc (by omega)
      refine ⟨g, o, cap, rfl, hg, ?_⟩
      rw [(hcl k hk).1]
      simp only [Au.ofL, List.getElem?_eq_getElem hk]
    have hin : Hid (∀ k c t, (Au.ofL d).step k c = some t → t < d.length) := fun k c t h => Au.ofL_in hf.row h
    obtain ⟨a, cap, rfl, hc1, hc2, _⟩ := hv
    obtain ⟨n, hn⟩ : ∃ n, n = d.length := ⟨_, rfl⟩
    have hn0 : 0 < n := by have := hf.pos; omega
    have hn2 : n ≤ 20000 := by have := hf.top; omega
    have HL := Lib.hid hlen
    have hS0 : Hid ((Au.ofL d).acc (some 0) ((s.data.toList.drop 0).map UInt8.toNat) = r) := hr2
    rw [← hn] at hE hin ⊢
    rw [← hn] at hP hK
    have hsz : s.size ≤ 9223372036854775806 := hs
    clear hr hr2 hf hlen hn hc1
    go_enter Tryd.func9, Tryd.ntmps9
    go_wp2_with fail
    refine hK.out.mono ?_
    rintro e w1 ⟨rfl, hb⟩
    have HB1 := Lib.hid hb
    clear hb
    go_wp2_with fail
    go_loopg [5, 6] s.size (fun gg va vi wx => ∃ (i : Nat) (x : Option Nat), i ≤ s.size ∧ gg = s.size - i ∧ va = .int .i64 (Au.code x) ∧ vi = .int .i64 i ∧ (∀ k, x = some k → k < n) ∧ Hid ((Au.ofL d).acc x ((s.data.toList.drop i).map UInt8.toNat) = r) ∧ Below w.heap.size w wx)
    case atStart => exact ⟨0, some 0, Nat.zero_le _, rfl, rfl, rfl, fun k h => by cases h; exact hn0, hS0, HB1.out⟩
    case round =>
      obtain ⟨i, x, hi, rfl, rfl, rfl, hxn, hS, hbel⟩ := hrel
      have HBE := Lib.hid hbel
      cases x with
      | none =>
        obtain rfl : false = r := by have h := hS.out; rw [Au.acc_none] at h; exact h
        have e1 : Au.code none = -1 := rfl
        rw [e1]
        clear hS hbel hxn e1
        by_cases his : i < s.size
        · have j1 : decide ((i : Int) < (s.size : Int)) = true := decide_eq_true (by omega)
          go_wp2_with fail
          go_ret
          exact ⟨rfl, HBE.out⟩
        · have j1 : decide ((i : Int) < (s.size : Int)) = false := decide_eq_false (by omega)
          go_wp2_with fail
          go_ret
          exact ⟨rfl, HBE.out⟩
      | some k =>
        have hkn := hxn k rfl
        have e1 : Au.code (some k) = (k : Int) := rfl
        rw [e1]
        have k0 : ((k : Int) != -1) = true := bne_iff_ne.2 (by omega)
        by_cases his : i < s.size
        · have j1 : decide ((i : Int) < (s.size : Int)) = true := decide_eq_true (by omega)
          have j2 : (i : Int) < (s.size : Int) := by omega
          have hst : Hid ((Au.ofL d).acc ((Au.ofL d).step k s[i].toNat) ((s.data.toList.drop (i + 1)).map UInt8.toNat) = r) := by
            have h := hS.out
            rw [List.drop_eq_getElem_cons (by rw [HL.out]; exact his), List.map_cons, Au.acc_step] at h
            exact h
          have hby : s[i].toNat < 256 := s[i].toNat_lt
          have hQ := Lib.hid (hP.out wr hbel k s[i].toNat hby)
          have hnx : Hid (∀ t, (Au.ofL d).step k s[i].toNat = some t → t < n) := fun t h => hin.out k _ t h
          clear hS hbel e1 hxn
          go_wp2_with fail
          refine hQ.out.mono ?_
          rintro e w2 ⟨rfl, hb⟩
          have HB2 : Hid (Below w.heap.size w w2) := chain HBE.out hb
          clear hb
          go_wp2_with fail
          go_roundg (s.size - (i + 1))
          case rel => exact ⟨i + 1, _, by omega, rfl, rfl, by go_num, hnx.out, hst, HB2.out⟩
          case measure => omega
        · obtain rfl : i = s.size := by omega
          have j1 : decide ((s.size : Int) < (s.size : Int)) = false := decide_eq_false (by omega)
          have hfin : (Au.ofL d).acc (some k) [] = r := by
            have h := hS.out
            rw [List.drop_of_length_le (by rw [HL.out]; exact Nat.le_refl _)] at h
            exact h
          rw [Au.acc_nil] at hfin
          obtain ⟨g, o, cap', hv, hg, hcl⟩ := hE.out k hkn
          simp only [Value.slice.injEq] at hv
          obtain ⟨rfl, _, _⟩ := hv
          have c1 := (HBE.out.cell (p := ⟨g, o + k * 2, none⟩) hg).trans hcl
          have j3 : (k : Int) < (n : Int) := by omega
          have j2 : (0 : Int) ≤ (k : Int) := by omega
          generalize (Au.ofL d).fin k = b at *
          subst hfin
          clear hcl hS hbel hxn e1
          go_wp2_with fail
          go_ret
          exact ⟨rfl, HBE.out⟩
  · have hne : ¬ Au.check d = 0 := fun h => hf ((Au.check_iff d).1 h)
    have hr : Au.takesL d s.data.toList = false := by unfold Au.takesL; simp [hf]
    rw [hr]
    have hne' : (Au.check d != 0) = true := bne_iff_ne.2 hne
    clear hv hr hf hne
    generalize Au.check d = ck at *
    go_enter Tryd.func9, Tryd.ntmps9
    go_wp2_with fail
    refine hK.out.mono ?_
    rintro e w1 ⟨rfl, hb⟩
    have HB1 := Lib.hid hb
    clear hb
    go_wp2_with fail
    go_ret
    exact ⟨rfl, HB1.out⟩
end Go.Proofs.YthhfmcikfdagiaaDoor

/-
  The program's isLoose.
-/
namespace Go.Proofs.YthhfmcikfdagiaaDoor
open Go.RowKit
namespace Au
/-- A loose state as 8.2 asks for it. -/
def fineS (n : Nat) (s : Lo) : Prop := (∀ a ∈ s.arcs, fine n a) ∧ ∀ f ∈ s.free, 0 ≤ f ∧ f < (n : Int)
theorem may_fine (d : List Lo) : May d ↔ 0 < d.length ∧ ∀ i (h : i < d.length), fineS d.length d[i] := by
  constructor
  · intro h
    refine ⟨h.pos, fun i hi => ⟨fun a ha => ?_, fun f hf => h.free i hi f hf⟩⟩
    have := h.arc i hi a ha
    unfold fine
    omega
  · rintro ⟨h0, h⟩
    refine ⟨h0, fun i hi a ha => ?_, fun i hi f hf => (h i hi).2 f hf⟩
    have := (h i hi).1 a ha
    unfold fine at this
    omega
end Au

set_option maxRecDepth 100000 in
set_option maxHeartbeats 4000000 in
theorem isLoose_any (F : Nat → Prop) (w : World) (u : Value) (d : List Au.Lo) (hu : LoS F w u d) :
    Calls Tryd.prog 18 #[u] w fun e w' => e = .returned (.bool (Au.may d)) ∧ Below w.heap.size w w' := by
  have hMB : Hid (∀ i (h : i < d.length) W va, Below w.heap.size w W → ArcS F W va d[i].arcs → Calls Tryd.prog 25 #[va, .int .i64 (d.length : Int)] W fun e w' => e = .returned (.bool (Au.fines d.length d[i].arcs)) ∧ Below W.heap.size W w') := fun i h W va hb ha => mayBe_any F W va _ _ ha
  obtain ⟨b, cap', rfl, hd1, hd2, hd⟩ := hu
  have hgood : 0 < d.length → (∀ i (h : i < d.length), Au.fineS d.length d[i]) → true = Au.may d := fun h0 h => ((Au.may_true d).2 ((Au.may_fine d).2 ⟨h0, h⟩)).symm
  have hbad : ∀ i (h : i < d.length), ¬ Au.fineS d.length d[i] → false = Au.may d := fun i hi h => by
    symm
    rw [← Bool.not_eq_true, Au.may_true, Au.may_fine]
    exact fun e => h (e.2 i hi)
  have hnone : d.length = 0 → false = Au.may d := fun h => by
    symm
    rw [← Bool.not_eq_true, Au.may_true, Au.may_fine]
    exact fun e => by omega
  generalize Au.may d = r at *
  obtain ⟨n, hn⟩ : ∃ n, n = d.length := ⟨_, rfl⟩
  have hn2 : n ≤ 9223372036854775807 := by omega
  have HD := Lib.hid hd
  have HN := Lib.hid hn
  have HG := Lib.hid hgood
  have HB := Lib.hid hbad
  have H0 := Lib.hid hnone
  rw [← hn]
  clear hd hd1 hgood hbad hnone hn
  go_enter Tryd.func18, Tryd.ntmps18
  go_wp2_with fail
  go_loopg [9] n (fun gg vi wx => ∃ i : Nat, i ≤ n ∧ gg = n - i ∧ vi = .int .i64 i ∧ Hid (∀ j (h : j < d.length), j < i → Au.fineS d.length d[j]) ∧ Below w.heap.size w wx)
  case atStart => exact ⟨0, Nat.zero_le _, rfl, rfl, fun j _ h => by omega, Below.refl _ _⟩
  case round =>
    obtain ⟨i, hi, rfl, rfl, hS, hbel⟩ := hrel
    by_cases hin : i < n
    · have j1 : (i : Int) < (n : Int) := by omega
      have hid : i < d.length := by rw [← HN.out]; exact hin
      obtain ⟨g, o, rfl, hg, _, hcl⟩ := HD.out (by omega)
      obtain ⟨c0, ⟨va, c1, hva⟩, vf, c2, hvf⟩ := hcl i hid
      obtain ⟨a2, cap2, rfl, _⟩ := id hva
      obtain ⟨a3, cap3, rfl, hf1, hf2, hf3⟩ := id hvf
      obtain ⟨ln, hln⟩ : ∃ ln, d[i].arcs.length = ln := ⟨_, rfl⟩
      obtain ⟨lf, hlf⟩ : ∃ lf, d[i].free.length = lf := ⟨_, rfl⟩
      rw [hln] at c1 hva
      rw [hlf] at c2
      have e0 := (hbel.cell (p := ⟨g, o + i * 3, none⟩) hg).trans c0
      have e1 := (hbel.cell (p := ⟨g, o + i * 3 + 1, none⟩) hg).trans c1
      have e2 := (hbel.cell (p := ⟨g, o + i * 3 + 2, none⟩) hg).trans c2
      have hHB : Hid (¬ Au.fineS d.length d[i] → false = r) := HB.out i hid
      have hst : Hid (Au.fineS d.length d[i] → ∀ j (h : j < d.length), j < i + 1 → Au.fineS d.length d[j]) := fun h j hj h2 => by
        by_cases e : j = i
        · subst e; exact h
        · exact hS.out j hj (by omega)
      have HBE := Lib.hid hbel
      have hm1 : Hid (∀ W, Below w.heap.size w W → Calls Tryd.prog 25 #[.slice a2 ln cap2, .int .i64 (n : Int)] W fun e w' => e = .returned (.bool (Au.fines d.length d[i].arcs)) ∧ Below W.heap.size W w') := fun W hb => by
        have := hMB.out i hid W _ hb (hva.below hb)
        rw [← HN.out] at this ⊢
        exact this
      have hB1 : Hid (Below w.heap.size w (wr.alloc (.cells #[.bool d[i].fin, .slice a2 ln cap2, .slice a3 lf cap3] 58))) := hbel.alloc hbel.size _
      have r0 : (wr.alloc (.cells #[.bool d[i].fin, .slice a2 ln cap2, .slice a3 lf cap3] 58)).cell? ⟨wr.heap.size, 2, none⟩ = some (.slice a3 lf cap3) := cell_at wr [.bool d[i].fin, .slice a2 ln cap2, .slice a3 lf cap3] _ 2 _ rfl
      have HF3 := Lib.hid hf3
      have HLF := Lib.hid hlf
      have hlf2 : lf ≤ 9223372036854775807 := by omega
      have hwr : w.heap.size ≤ wr.heap.size := hbel.size
      clear hS hbel c1 c2 c0 hva hvf hln hcl hf3 hlf hf1
      by_cases q1 : ∀ a ∈ d[i].arcs, Au.fine d.length a
      · have f1 : Au.fines d.length d[i].arcs = true := Au.fines_true q1
        rw [f1] at hm1
        have hHB2 : Hid (∀ k (h : k < d[i].free.length), ¬ (0 ≤ d[i].free[k] ∧ d[i].free[k] < (n : Int)) → false = r) := fun k hk h => hHB.out fun e => h (by rw [HN.out]; exact e.2 _ (List.getElem_mem hk))
        have hst2 : Hid ((∀ k (h : k < d[i].free.length), 0 ≤ d[i].free[k] ∧ d[i].free[k] < (n : Int)) → ∀ j (h : j < d.length), j < i + 1 → Au.fineS d.length d[j]) := fun h => hst.out ⟨q1, fun f hf => by
          obtain ⟨k, hk, rfl⟩ := List.getElem_of_mem hf
          rw [← HN.out]
          exact h k hk⟩
        clear f1 hst q1 hHB
        generalize d[i].fin = fi at *
        generalize d[i].free = fr at *
        go_wp2_with (go_at_call 25; refine (hm1.out _ hB1.out).mono ?_; rintro e w2 ⟨rfl, hb⟩; have hB2 : Hid (Below w.heap.size w w2) := chain hB1.out hb; have r1 := (hb.cell (p := ⟨wr.heap.size, 2, none⟩) (by simp)).trans r0; clear hb)
        go_loopg [22] lf (fun gg vk wx => ∃ k : Nat, k ≤ lf ∧ gg = lf - k ∧ vk = .int .i64 k ∧ Hid (∀ j (h : j < fr.length), j < k → 0 ≤ fr[j] ∧ fr[j] < (n : Int)) ∧ wx = w2)
        case atStart => exact ⟨0, Nat.zero_le _, rfl, rfl, fun j _ h => by omega, rfl⟩
        case round =>
          obtain ⟨k, hk, rfl, rfl, hT, rfl⟩ := hrel
          by_cases hkl : k < lf
          · have k1 : (k : Int) < (lf : Int) := by omega
            have kf : k < fr.length := by rw [HLF.out]; exact hkl
            obtain ⟨g3, o3, rfl, hg3, _, hcf⟩ := HF3.out (by omega)
            have f2 := (hB2.out.cell (p := ⟨g3, o3 + k, none⟩) hg3).trans (hcf k kf)
            have hHB3 := Lib.hid (hHB2.out k kf)
            have hT2 : Hid (0 ≤ fr[k] ∧ fr[k] < (n : Int) → ∀ j (h : j < fr.length), j < k + 1 → 0 ≤ fr[j] ∧ fr[j] < (n : Int)) := fun h j hj h2 => by
              by_cases e : j = k
              · subst e; exact h
              · exact hT.out j hj (by omega)
            clear hT hcf
            have HP : Hid (Calls Tryd.prog 27 #[.int .i64 fr[k], .int .i64 (n : Int)] wr fun e w' => e = .returned (.bool (decide (0 ≤ fr[k] ∧ fr[k] < (n : Int)))) ∧ wr = w') := isPlace_any wr fr[k] n
            by_cases q4 : 0 ≤ fr[k] ∧ fr[k] < (n : Int)
            · have f4 : decide (0 ≤ fr[k] ∧ fr[k] < (n : Int)) = true := decide_eq_true q4
              rw [f4] at HP
              have HT := Lib.hid (hT2.out q4)
              clear f4 q4 hT2 hHB3
              generalize fr[k] = fk at *
              go_wp2_with (go_at_call 27; refine HP.out.mono ?_; rintro e w' ⟨rfl, rfl⟩)
              go_roundg (lf - (k + 1))
              case rel => exact ⟨k + 1, by omega, rfl, by go_num, HT, rfl⟩
              case measure => omega
            · have f4 : decide (0 ≤ fr[k] ∧ fr[k] < (n : Int)) = false := decide_eq_false q4
              rw [f4] at HP
              obtain rfl := hHB3.out q4
              clear f4 q4 hT2 hHB3
              generalize fr[k] = fk at *
              go_wp2_with (go_at_call 27; refine HP.out.mono ?_; rintro e w' ⟨rfl, rfl⟩)
              go_ret
              exact ⟨rfl, hB2.out⟩
          · obtain rfl : k = lf := by omega
            have HT := Lib.hid (hst2.out fun j hj => hT.out j hj (by rw [← HLF.out]; exact hj))
            clear hT
            go_wp2_with fail
            go_roundg (n - (i + 1))
            case rel => exact ⟨i + 1, by omega, rfl, by go_num, HT, hB2.out⟩
            case measure => omega
      · have f1 : Au.fines d.length d[i].arcs = false := Au.fines_false q1
        rw [f1] at hm1
        obtain rfl := hHB.out fun h => q1 h.1
        clear f1 hst q1 hHB
        generalize d[i].fin = fi at *
        go_wp2_with (go_at_call 25; refine (hm1.out _ hB1.out).mono ?_; rintro e w2 ⟨rfl, hb⟩; have hB2 : Hid (Below w.heap.size w w2) := chain hB1.out hb; clear hb)
        go_ret
        exact ⟨rfl, hB2.out⟩
    · obtain rfl : i = n := by omega
      have HBE := Lib.hid hbel
      by_cases h0 : i = 0
      · obtain rfl := H0.out (by rw [← HN.out]; exact h0)
        have j0 : ¬ (0 : Int) < (i : Int) := by omega
        clear hS hbel
        go_wp2_with fail
        go_ret
        exact ⟨rfl, HBE.out⟩
      · obtain rfl := HG.out (by rw [← HN.out]; omega) fun j hj => hS.out j hj (by rw [HN.out]; exact hj)
        have j0 : (0 : Int) < (i : Int) := by omega
        have d0 : decide (0 < i) = true := decide_eq_true (by omega)
        clear hS hbel h0
        go_wp2_with fail
        go_ret
        exact ⟨rfl, HBE.out⟩
end Go.Proofs.YthhfmcikfdagiaaDoor
