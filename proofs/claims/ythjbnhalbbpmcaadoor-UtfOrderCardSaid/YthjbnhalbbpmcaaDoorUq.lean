/-
  The order of bytes, and of characters: those of characters stand as the characters, one by one.
-/
import Derived.Test.YthjbnhalbbpmcaaDoorUt
import Derived.WalkKit
namespace Go.Proofs.YthjbnhalbbpmcaaDoor.Ut
open Go.Lib

/-- How two rows of bytes stand. -/
def cp : List UInt8 → List UInt8 → Int
  | [], [] => 0
  | [], _ :: _ => -1
  | _ :: _, [] => 1
  | a :: x, b :: y => if a.toNat < b.toNat then -1 else if b.toNat < a.toNat then 1 else cp x y
theorem cp_self (x : List UInt8) : cp x x = 0 := by
  induction x with
  | nil => rfl
  | cons a x ih => simp [cp, ih]
theorem cp_neg (x y : List UInt8) : cp y x = - cp x y := by
  induction x generalizing y with
  | nil => cases y <;> simp [cp]
  | cons a x ih => cases y with
    | nil => simp [cp]
    | cons b y =>
      unfold cp
      by_cases h : a.toNat < b.toNat
      · rw [if_neg (by omega), if_pos h, if_pos h]
        decide
      · by_cases h2 : b.toNat < a.toNat
        · rw [if_pos h2, if_neg h, if_pos h2]
        · rw [if_neg h2, if_neg h, if_neg h, if_neg h2, ih]
theorem cp_front (p x y : List UInt8) : cp (p ++ x) (p ++ y) = cp x y := by
  induction p with
  | nil => rfl
  | cons a p ih => simp [cp, ih]
theorem less_cp (x y : List UInt8) : Op.bytesLess x y = decide (cp x y = -1) := by
  induction x generalizing y with
  | nil => cases y <;> simp [Op.bytesLess, cp]
  | cons a x ih => cases y with
    | nil => simp [Op.bytesLess, cp]
    | cons b y =>
      simp only [Op.bytesLess, cp, ih]
      by_cases h : a.toNat < b.toNat
      · have : a < b := UInt8.lt_iff_toNat_lt.2 h
        simp [this, h]
      · have h' : ¬ a < b := fun e => h (UInt8.lt_iff_toNat_lt.1 e)
        by_cases h2 : b.toNat < a.toNat
        · have : ¬ a = b := fun e => by subst e; omega
          simp [h', this, h, h2]
        · have : a = b := UInt8.toNat_inj.1 (by omega)
          subst this
          simp

/-- Two characters, whatever stands behind them. -/
theorem rune_less (c d : Int) (hc : whole c = true) (hd : whole d = true) (h : c < d) (x y : List UInt8) : cp (encodeRune c ++ x) (encodeRune d ++ y) = -1 := by
  unfold encodeRune
  rcases run_cases c hc with ⟨a1, a2, e⟩ | ⟨a1, a2, e⟩ | ⟨a1, e⟩ | ⟨a1, a2, e⟩ <;>
  rcases run_cases d hd with ⟨b1, b2, f⟩ | ⟨b1, b2, f⟩ | ⟨b1, f⟩ | ⟨b1, b2, f⟩ <;>
  first
  | (exfalso; omega)
  | (rw [e, f]
     simp only [List.map_cons, List.map_nil, List.cons_append, List.nil_append, cp]
     simp (disch := omega) only [byteZ]
     repeat' split
     all_goals first | rfl | (exfalso; omega))

/-- The order of two rows of characters. -/
def less : List Int → List Int → Bool
  | [], [] => false
  | [], _ :: _ => true
  | _ :: _, [] => false
  | a :: x, b :: y => if a = b then less x y else decide (a < b)
theorem less_enc (a b : List Int) (ha : allW a = true) (hb : allW b = true) : Op.bytesLess (enc a) (enc b) = less a b := by
  rw [less_cp]
  induction a generalizing b with
  | nil => cases b with
    | nil => rfl
    | cons d y =>
      rw [enc_cons]
      cases h : encodeRune d with
      | nil => exact absurd h (rune_ne d)
      | cons u v => simp [enc, cp, less]
  | cons c x ih => cases b with
    | nil =>
      rw [enc_cons]
      cases h : encodeRune c with
      | nil => exact absurd h (rune_ne c)
      | cons u v => simp [enc, cp, less]
    | cons d y =>
      rw [allW_cons, Bool.and_eq_true] at ha hb
      rw [enc_cons, enc_cons]
      unfold less
      by_cases h : c = d
      · subst h
        rw [cp_front, if_pos rfl]
        exact ih y ha.2 hb.2
      · rw [if_neg h]
        by_cases hlt : c < d
        · rw [rune_less c d ha.1 hb.1 hlt, decide_eq_true hlt]
          rfl
        · rw [cp_neg, rune_less d c hb.1 ha.1 (by omega), decide_eq_false hlt]
          rfl
/-- The order by the first place at which two rows are not alike. -/
theorem less_at (a b : List Int) (i : Nat) (ha : i ≤ a.length) (hb : i ≤ b.length) (he : a.take i = b.take i)
    (hn : ∀ (h1 : i < a.length) (h2 : i < b.length), a[i] ≠ b[i]) : less a b = (decide (i < b.length) && (decide (i = a.length) || (if h : i < a.length ∧ i < b.length then decide (a[i] < b[i]) else false))) := by
  induction i generalizing a b with
  | zero => cases a with
    | nil => cases b <;> simp [less]
    | cons c x => cases b with
      | nil => simp [less]
      | cons d y =>
        have h := hn (by simp) (by simp)
        simp only [List.getElem_cons_zero] at h
        simp [less, h]
  | succ i ih => cases a with
    | nil => simp at ha
    | cons c x => cases b with
      | nil => simp at hb
      | cons d y =>
        simp only [List.take_succ_cons, List.cons.injEq] at he
        obtain ⟨rfl, he⟩ := he
        unfold less
        rw [if_pos rfl, ih x y (by simpa using ha) (by simpa using hb) he (fun h1 h2 => by have h3 := hn (by simpa using h1) (by simpa using h2); simpa only [List.getElem_cons_succ, ne_eq] using h3)]
        simp
end Go.Proofs.YthjbnhalbbpmcaaDoor.Ut
