/-
  Texts as terms, plainly: rows of letters, each folded; the terms of two texts, of a term, of a folded text. No program is named here.
-/
import Derived.Test.YtedloedfbegbkaaDoorUs
namespace Go.Proofs.YtedloedfbegbkaaDoor.Ut
open Go.Lib

/-- How many letters stand ahead. -/
def ahead (l : List Int) : Nat := (l.takeWhile letter).length
/-- The rows of letters; the first is told whether a letter stood ahead of it all. -/
def rows : Bool → List Int → List (List Int)
  | _, [] => []
  | p, c :: r => if letter c = true ∧ p = false then (c :: r).takeWhile letter :: rows true r else rows (letter c) r
theorem rows_cons (p : Bool) (c : Int) (r : List Int) : rows p (c :: r) = if letter c = true ∧ p = false then (c :: r).takeWhile letter :: rows true r else rows (letter c) r := rfl
/-- The term of letters. -/
def term (w : List Int) : List UInt8 := enc (w.map fold)
def terms (l : List Int) : List (List UInt8) := (rows false l).map term
def short (t : List UInt8) : Bool := decide (t.length ≤ 64)

theorem ahead_le (l : List Int) : ahead l ≤ l.length := by
  unfold ahead
  exact (List.takeWhile_sublist letter).length_le
theorem take_ahead (l : List Int) : l.take (ahead l) = l.takeWhile letter := by
  induction l with
  | nil => rfl
  | cons c r ih =>
    unfold ahead at ih ⊢
    cases h : letter c
    · simp [h]
    · simp [h, ih]
theorem drop_ahead (l : List Int) : l.drop (ahead l) = l.dropWhile letter := by
  induction l with
  | nil => rfl
  | cons c r ih =>
    unfold ahead at ih ⊢
    cases h : letter c
    · simp [h]
    · simp [h, ih]
theorem rows_true_drop (l : List Int) : rows true l = rows false (l.dropWhile letter) := by
  induction l with
  | nil => rfl
  | cons c r ih =>
    cases h : letter c
    · simp [rows, h]
    · simp [rows, h, ih]
theorem rows_skip (l : List Int) (hne : l ≠ []) (h : ahead l = 0) : rows false l = rows false (l.drop 1) := by
  cases l with
  | nil => exact absurd rfl hne
  | cons c r =>
    cases hc : letter c
    · simp [rows, hc]
    · simp [ahead, hc] at h
theorem rows_take (l : List Int) (h : 0 < ahead l) : rows false l = l.take (ahead l) :: rows false (l.drop (ahead l)) := by
  rw [take_ahead, drop_ahead]
  cases l with
  | nil => simp [ahead] at h
  | cons c r =>
    cases hc : letter c
    · simp [ahead, hc] at h
    · simp [rows, hc, rows_true_drop]
/-- The rows as the document takes them: from place i on. -/
theorem rows_at (l : List Int) (i : Nat) (h : i < l.length) (p : Bool) :
    rows p (l.drop i) = if letter l[i] = true ∧ p = false then (l.drop i).takeWhile letter :: rows true (l.drop (i + 1)) else rows (letter l[i]) (l.drop (i + 1)) := by
  rw [List.drop_eq_getElem_cons h]
  rfl

theorem takeWhile_all {w : List Int} (hw : ∀ c ∈ w, letter c = true) : w.takeWhile letter = w := by
  induction w with
  | nil => rfl
  | cons c r ih => simp [hw c (List.mem_cons_self ..), ih (fun x hx => hw x (List.mem_cons_of_mem _ hx))]
theorem dropWhile_all {w : List Int} (hw : ∀ c ∈ w, letter c = true) : w.dropWhile letter = [] := by
  induction w with
  | nil => rfl
  | cons c r ih => simp [hw c (List.mem_cons_self ..), ih (fun x hx => hw x (List.mem_cons_of_mem _ hx))]
/-- A row of letters is its own only row. -/
theorem rows_one (w : List Int) (hne : w ≠ []) (hw : ∀ c ∈ w, letter c = true) : rows false w = [w] := by
  cases w with
  | nil => exact absurd rfl hne
  | cons c r =>
    have hc := hw c (List.mem_cons_self ..)
    have h1 := takeWhile_all hw
    have h2 : rows true r = [] := by rw [rows_true_drop, dropWhile_all (fun x hx => hw x (List.mem_cons_of_mem _ hx))]; rfl
    unfold rows
    rw [if_pos ⟨hc, rfl⟩, h1, h2]
/-- Each row has letters, and one at least. -/
theorem rows_letters (l : List Int) : ∀ (p : Bool), ∀ w ∈ rows p l, w ≠ [] ∧ (∀ c ∈ w, letter c = true) ∧ ∃ a b, l = a ++ w ++ b := by
  induction l with
  | nil => intro p w hw; cases hw
  | cons c r ih =>
    intro p w hw
    unfold rows at hw
    by_cases h : letter c = true ∧ p = false
    · rw [if_pos h] at hw
      rcases List.mem_cons.1 hw with rfl | hw
      · refine ⟨by simp [h.1], fun x hx => ?_, [], (c :: r).dropWhile letter, by simp [List.takeWhile_append_dropWhile]⟩
        have := List.all_takeWhile (p := letter) (l := c :: r)
        exact List.all_eq_true.1 this x hx
      · obtain ⟨h1, h2, a, b, h3⟩ := ih true w hw
        exact ⟨h1, h2, c :: a, b, by simp [h3]⟩
    · rw [if_neg h] at hw
      obtain ⟨h1, h2, a, b, h3⟩ := ih _ w hw
      exact ⟨h1, h2, c :: a, b, by simp [h3]⟩
theorem rows_length (l : List Int) : ∀ (p : Bool), (rows p l).length ≤ l.length := by
  induction l with
  | nil => intro p; simp [rows]
  | cons c r ih =>
    intro p
    unfold rows
    split
    · have := ih true; simp; omega
    · have := ih (letter c); simp; omega

theorem letter_blank : letter 32 = false := by decide +kernel
theorem takeWhile_blank (x y : List Int) : (x ++ 32 :: y).takeWhile letter = x.takeWhile letter := by
  induction x with
  | nil => simp [letter_blank]
  | cons c r ih =>
    cases h : letter c
    · simp [h]
    · simp [h, ih]
theorem rows_blank (x y : List Int) : ∀ (p : Bool), rows p (x ++ 32 :: y) = rows p x ++ rows false y := by
  induction x with
  | nil => intro p; simp [rows, letter_blank]
  | cons c r ih =>
    intro p
    show rows p (c :: (r ++ 32 :: y)) = _
    have e : (c :: (r ++ 32 :: y)).takeWhile letter = (c :: r).takeWhile letter := takeWhile_blank (c :: r) y
    rw [rows_cons, rows_cons]
    by_cases h : letter c = true ∧ p = false
    · rw [if_pos h, if_pos h, e, ih true]
      rfl
    · rw [if_neg h, if_neg h, ih]

theorem fold_letter_near : ∀ n : Fin 1072, letter (fold (n.val : Int)) = letter (n.val : Int) := by decide +kernel
theorem fold_letter (c : Int) : letter (fold c) = letter c := by
  by_cases h : c < 0 ∨ 1071 < c
  · rw [fold_far c h]
  · have := fold_letter_near ⟨c.toNat, by omega⟩
    rw [show (((⟨c.toNat, by omega⟩ : Fin 1072).val : Nat) : Int) = c from by show ((c.toNat : Nat) : Int) = c; omega] at this
    exact this
theorem takeWhile_fold (l : List Int) : (l.map fold).takeWhile letter = (l.takeWhile letter).map fold := by
  induction l with
  | nil => rfl
  | cons c r ih =>
    cases h : letter c
    · simp [fold_letter, h]
    · simp [fold_letter, h, ih]
theorem rows_fold (l : List Int) : ∀ (p : Bool), rows p (l.map fold) = (rows p l).map (List.map fold) := by
  induction l with
  | nil => intro p; rfl
  | cons c r ih =>
    intro p
    show rows p (fold c :: r.map fold) = _
    have e : (fold c :: r.map fold).takeWhile letter = ((c :: r).takeWhile letter).map fold := takeWhile_fold (c :: r)
    unfold rows
    rw [fold_letter, e]
    by_cases h : letter c = true ∧ p = false
    · rw [if_pos h, if_pos h, ih true]
      rfl
    · rw [if_neg h, if_neg h, ih]
theorem map_fold_fold (w : List Int) : (w.map fold).map fold = w.map fold := by
  rw [List.map_map]
  exact List.map_congr_left fun c _ => fold_fold c
theorem term_fold (w : List Int) : term (w.map fold) = term w := by
  unfold term
  rw [map_fold_fold]
/-- A folded text has the terms of the text. -/
theorem terms_fold (l : List Int) : terms (l.map fold) = terms l := by
  unfold terms
  rw [rows_fold, List.map_map]
  exact List.map_congr_left fun w _ => term_fold w
theorem terms_blank (x y : List Int) : terms (x ++ 32 :: y) = terms x ++ terms y := by
  unfold terms
  rw [rows_blank, List.map_append]

/-- What Tokens answers: the error, and the terms. -/
def tokE (s : List UInt8) : Int :=
  if 4096 < s.length then 4 else if validD s = true then (if (terms (dec s)).all short = true then 0 else 4) else 7
def tokS (s : List UInt8) : List (List UInt8) :=
  if tokE s = 0 then terms (dec s) else []
theorem tokE_ok {s : List UInt8} (h : tokE s = 0) : s.length ≤ 4096 ∧ validD s = true ∧ (terms (dec s)).all short = true ∧ tokS s = terms (dec s) := by
  refine ⟨?_, ?_, ?_, if_pos h⟩
  all_goals
    unfold tokE at h
    by_cases h1 : 4096 < s.length
    · rw [if_pos h1] at h; exact absurd h (by decide)
    · rw [if_neg h1] at h
      by_cases h2 : validD s = true
      · rw [if_pos h2] at h
        by_cases h3 : (terms (dec s)).all short = true
        · first | omega | exact h2 | exact h3
        · rw [if_neg h3] at h; exact absurd h (by decide)
      · rw [if_neg h2] at h; exact absurd h (by decide)
theorem tokE_of {s : List UInt8} (h1 : s.length ≤ 4096) (h2 : validD s = true) (h3 : (terms (dec s)).all short = true) : tokE s = 0 := by
  unfold tokE
  rw [if_neg (by omega), if_pos h2, if_pos h3]
theorem tokE_cases (s : List UInt8) : tokE s = 0 ∨ tokE s = 4 ∨ tokE s = 7 := by
  unfold tokE
  split
  · omega
  · split
    · split <;> omega
    · omega
theorem tokS_no {s : List UInt8} (h : tokE s ≠ 0) : tokS s = [] := if_neg h
/-- What Term answers. -/
def oneE (s : List UInt8) : Int := if tokE s = 0 then (if (tokS s).length = 1 then 0 else 20) else tokE s
def oneS (s : List UInt8) : List UInt8 := if oneE s = 0 then (tokS s).headD [] else []

/-- A term's letters, folded. -/
theorem term_letters {w : List Int} (hne : w ≠ []) (hw : ∀ c ∈ w, letter c = true) :
    validD (term w) = true ∧ dec (term w) = w.map fold ∧ terms (dec (term w)) = [term w] ∧ 0 < (term w).length := by
  have hall : allW (w.map fold) = true := by
    rw [allW_iff]
    intro c hc
    obtain ⟨x, hx, rfl⟩ := List.mem_map.1 hc
    exact whole_fold x (letter_whole x (hw x hx)).1
  obtain ⟨h1, h2⟩ := dec_enc _ hall
  refine ⟨h1, h2, ?_, ?_⟩
  · unfold term at *
    rw [h2, terms_fold]
    unfold terms
    rw [rows_one w hne hw]
    rfl
  · have := (enc_length (w.map fold)).1
    have h3 : 0 < w.length := List.length_pos_iff.2 hne
    rw [List.length_map] at this
    unfold term
    omega
/-- Each term is a text whose only term it is. -/
theorem twice (s : List UInt8) (h : tokE s = 0) (t : List UInt8) (ht : t ∈ tokS s) : oneE t = 0 ∧ oneS t = t ∧ 0 < t.length ∧ t.length ≤ 64 := by
  obtain ⟨_, _, h3, h4⟩ := tokE_ok h
  rw [h4] at ht
  have hs : t.length ≤ 64 := of_decide_eq_true (List.all_eq_true.1 h3 t ht)
  obtain ⟨w, hw, rfl⟩ := List.mem_map.1 ht
  obtain ⟨w1, w2, _⟩ := rows_letters _ _ w hw
  obtain ⟨t1, _, t3, t4⟩ := term_letters w1 w2
  have e : tokE (term w) = 0 := tokE_of (by omega) t1 (by rw [t3]; simp [short]; omega)
  have e2 : tokS (term w) = [term w] := (tokE_ok e).2.2.2.trans t3
  have e3 : oneE (term w) = 0 := by unfold oneE; rw [if_pos e, e2]; rfl
  exact ⟨e3, by unfold oneS; rw [if_pos e3, e2]; rfl, t4, hs⟩
theorem allW_fold {l : List Int} (h : allW l = true) : allW (l.map fold) = true := by
  rw [allW_iff] at *
  intro c hc
  obtain ⟨x, hx, rfl⟩ := List.mem_map.1 hc
  exact whole_fold x (h x hx)
theorem enc_fold_length (l : List Int) : (enc (l.map fold)).length ≤ (enc l).length := by
  induction l with
  | nil => exact Nat.le_refl _
  | cons c r ih =>
    rw [List.map_cons, enc_cons, enc_cons, List.length_append, List.length_append]
    have := fold_len c
    omega
/-- The terms of two texts with a blank between. -/
theorem joined (a b : List UInt8) (ha : tokE a = 0) (hb : tokE b = 0) (hl : a.length + b.length < 4096) : tokE (a ++ 32 :: b) = 0 ∧ tokS (a ++ 32 :: b) = tokS a ++ tokS b := by
  obtain ⟨_, a2, a3, a4⟩ := tokE_ok ha
  obtain ⟨_, b2, b3, b4⟩ := tokE_ok hb
  obtain ⟨ea, wa⟩ := enc_dec a.length a (Nat.le_refl _) a2
  obtain ⟨eb, wb⟩ := enc_dec b.length b (Nat.le_refl _) b2
  have hw : allW (dec a ++ 32 :: dec b) = true := by
    rw [allW_append, wa, allW_cons, wb]
    decide +kernel
  have he : enc (dec a ++ 32 :: dec b) = a ++ 32 :: b := by
    rw [enc_append, ea, enc_cons, eb]
    have : encodeRune 32 = [32] := by decide +kernel
    rw [this]
    rfl
  obtain ⟨d1, d2⟩ := dec_enc _ hw
  rw [he] at d1 d2
  have t0 : tokE (a ++ 32 :: b) = 0 := tokE_of (by simp; omega) d1 (by rw [d2, terms_blank, List.all_append, a3, b3]; rfl)
  exact ⟨t0, by rw [(tokE_ok t0).2.2.2, d2, terms_blank, a4, b4]⟩
end Go.Proofs.YtedloedfbegbkaaDoor.Ut
