/-
  What the writers of texts and blocks answer, the program's and the document's own: the same bytes.
-/
import Derived.Test.YtjeicjnlhepaiaaRef
import Derived.Lib.Replace
import Derived.Lib.ReplaceLaws
namespace Go.Proofs.Ytjeicjnlhepaiaa
open Go.RowKit

/-- Each 0 with a 255 behind it. -/
def esc (l : List UInt8) : List UInt8 := l.flatMap (fun b => if b = 0 then [0, 255] else [b])
/-- The bytes of a text. -/
def textB (l : List UInt8) : List UInt8 := esc l ++ [0, 1]
/-- The bytes of a block. -/
def blockB (l : List UInt8) : List UInt8 := Pl.numB l.length ++ l

theorem esc_cons (b : UInt8) (l : List UInt8) : esc (b :: l) = (if b = 0 then [0, 255] else [b]) ++ esc l := rfl
theorem esc_append (l r : List UInt8) : esc (l ++ r) = esc l ++ esc r := by simp [esc]
theorem esc_length (l : List UInt8) : (esc l).length ≤ 2 * l.length := by
  induction l with
  | nil => simp [esc]
  | cons b t ih =>
    rw [esc_cons, List.length_append, List.length_cons]
    split <;> simp <;> omega

theorem replaceK_esc : ∀ l : List UInt8, Lib.replaceK [0] [0, 255] (Lib.count l [0]) l = esc l := by
  intro l
  induction l with
  | nil => rfl
  | cons b t ih =>
    by_cases hb : b = 0
    · subst hb
      rw [Lib.count_cons_eq, Nat.add_comm, Lib.replaceK_hit _ _ _ _ 0 (by unfold Lib.index; simp), esc_cons, if_pos rfl, ← ih]
      simp
    · rw [Lib.count_cons_ne b 0 t hb, esc_cons, if_neg hb]
      cases hk : Lib.count t [0] with
      | zero =>
        rw [hk] at ih
        rw [← ih]
        rfl
      | succ k =>
        rw [hk] at ih
        obtain ⟨i, hi⟩ := Lib.index_of_count (s := t) (old := [0]) (by omega)
        have hi2 : Lib.index (b :: t) [0] = ((i + 1 : Nat) : Int) := by
          unfold Lib.index
          have h1 : List.isPrefixOf [0] (b :: t) = false := by simp [List.isPrefixOf]; exact fun h => hb h.symm
          have h2 : ((i : Int) == -1) = false := by rw [beq_eq_false_iff_ne]; omega
          rw [h1, hi]
          simp [h2]
        rw [Lib.replaceK_hit _ _ _ _ (i + 1) hi2, ← ih, Lib.replaceK_hit _ _ _ _ i hi]
        simp
theorem replaceAll_esc (l : List UInt8) : Lib.replaceAll l [0] [0, 255] = esc l := by
  unfold Lib.replaceAll Lib.replace Lib.replaceNum
  rw [if_neg (by decide), if_pos (Or.inl (by decide))]
  exact replaceK_esc l

theorem add_mk (l r : List UInt8) : (⟨l.toArray⟩ : ByteArray) ++ ⟨r.toArray⟩ = ⟨(l ++ r).toArray⟩ := by
  apply mk_of
  rw [ByteArray.data_append]
  simp
theorem add_mk' (l : List UInt8) (s : ByteArray) : (⟨l.toArray⟩ : ByteArray) ++ s = ⟨(l ++ s.data.toList).toArray⟩ := by
  apply mk_of
  rw [ByteArray.data_append]
  simp

end Go.Proofs.Ytjeicjnlhepaiaa
