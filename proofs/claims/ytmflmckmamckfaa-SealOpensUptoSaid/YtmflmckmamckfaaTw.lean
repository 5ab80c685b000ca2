/-
  What the writers of texts and blocks answer, the program's and the document's own: the same bytes.
-/
import Derived.Test.YtmflmckmamckfaaRef
import Derived.Lib.Replace
import Derived.Lib.ReplaceLaws
namespace Go.Proofs.Ytmflmckmamckfaa
open Go.RowKit

/-- Each 0 with a 255 behind it. -/
def esc (l : List UInt8) : List UInt8 := l.flatMap (fun b => if b = 0 then [0, 255] else [b])
/-- The bytes of a text. -/
def textB (l : List UInt8) : List UInt8 := esc l ++ [0, 1]
/-- The bytes of a block. -/
def blockB (l : List UInt8) : List UInt8 := Pl.numB l.length ++ l

theorem esc_cons (b : UInt8) (l : List UInt8) : esc (b :: l) = (if b = 0 then [0, 255] else [b]) ++ esc l := rfl
theorem esc_append (l r : List UInt8) : esc (l ++ r) = esc l ++ esc r := by simp [esc]
theorem esc_length (l : List UInt8) : (esc l).length ≤ 2 * l.length := by
  induction l with
  | nil => simp [esc]
  | cons b t ih =>
    rw [esc_cons, List.length_append, List.length_cons]
    split <;> simp <;> omega

theorem replaceK_esc : ∀ l : List UInt8, Lib.replaceK [0] [0, 255] (Lib.count l [0]) l = esc l := by
  intro l
  induction l with
  | nil => rfl
  | cons b t ih =>
    by_cases hb : b = 0
    · subst hb
      rw [Lib.count_cons_eq, Nat.add_comm, Lib.replaceK_hit _ _ _ _ 0 (by unfold Lib.index; simp), esc_cons, if_pos rfl, ← ih]
      simp
    · rw [Lib.count_cons_ne b 0 t hb, esc_cons, if_neg hb]
      cases hk : Lib.count t [0] with
      | zero =>
        rw [hk] at ih
        rw [← ih]
        rfl
      | succ k =>
        rw [hk] at ih
        obtain ⟨i, hi⟩ := Lib.index_of_count (s := t) (old := [0]) (by omega)
        have hi2 : Lib.index (b :: t) [0] = ((i + 1 : Nat) : Int) := by
          unfold Lib.index
          have h1 : List.isPrefixOf [0] (b :: t) = false := by simp [List.isPrefixOf]; exact fun h => hb h.symm
          have h2 : ((i : Int) == -1) = false := by rw [beq_eq_false_iff_ne]; omega
          rw [h1, hi]
          simp [h2]
        rw [Lib.replaceK_hit _ _ _ _ (i + 1) hi2, ← ih, Lib.replaceK_hit _ _ _ _ i hi]
        simp
theorem replaceAll_esc (l : List UInt8) : Lib.replaceAll l [0] [0, 255] = esc l := by
  unfold Lib.replaceAll Lib.replace Lib.replaceNum
  rw [if_neg (by decide), if_pos (Or.inl (by decide))]
  exact replaceK_esc l

theorem add_mk (l r : List UInt8) : (⟨l.toArray⟩ : ByteArray) ++ ⟨r.toArray⟩ = ⟨(l ++ r).toArray⟩ := by
  apply mk_of
  rw [ByteArray.data_append]
  simp
theorem add_mk' (l : List UInt8) (s : ByteArray) : (⟨l.toArray⟩ : ByteArray) ++ s = ⟨(l ++ s.data.toList).toArray⟩ := by
  apply mk_of
  rw [ByteArray.data_append]
  simp

set_option maxRecDepth 100000 in
set_option maxHeartbeats 1000000 in
theorem block_w (s : ByteArray) (w : World) (hs : s.size ≤ 140737488355328) :
    Calls Try.prog 17 #[.string s] w (StrPost w.heap.size w (blockB s.data.toList)) := by
  have hc : Hid (Calls Try.prog 26 #[.slice (some ⟨w.heap.size, 0, none⟩) 1 1] (w.alloc (.cells #[.int .i64 s.size] 3)) (StrPost w.heap.size w (Pl.numB s.size))) := by
    have h := nums_any (w.alloc (.cells #[.int .i64 s.size] 3)) [(s.size : Int)] 1 1 w.heap.size 0 (by omega) rfl (by simp) (by
      intro j hj
      match j, hj with
      | 0, _ => rw [World.cell?_alloc_at _ _ _ _ rfl]; rfl) (by intro n hn; simp at hn; omega)
    refine h.mono fun e w' ⟨h1, h2⟩ => ⟨?_, ((Below.refl w.heap.size w).alloc (Nat.le_refl _) _).trans (h2.mono (by simp))⟩
    rw [h1]
    simp [Pl.numsB]
  have hl := numB_length (s.size : Int)
  have e : blockB s.data.toList = Pl.numB (s.size : Int) ++ s.data.toList := by
    unfold blockB
    rw [show s.data.toList.length = s.size from by simp]
  rw [e]
  generalize Pl.numB (s.size : Int) = l at *
  have hlen : (⟨l.toArray⟩ : ByteArray).size ≤ 9 := by
    have : (⟨l.toArray⟩ : ByteArray).size = l.length := by simp [ByteArray.size]
    omega
  go_enter Try.func17, Try.ntmps17
  go_wp2_with (refine hc.out.mono ?_; rintro e w1 ⟨rfl, hb⟩; have HB := Lib.hid hb; clear hb)
  go_ret
  exact ⟨ret_str (add_mk' l s), HB.out⟩

set_option maxRecDepth 100000 in
set_option maxHeartbeats 1000000 in
theorem blockR_w (s : ByteArray) (w : World) (hs : s.size ≤ 140737488355328) :
    Calls Try.prog 19 #[.string s] w (StrPost w.heap.size w (blockB s.data.toList)) := by
  have hc : Hid (Calls Try.prog 27 #[.int .i64 s.size] w (StrPost w.heap.size w (Pl.numB s.size))) := numR_any _ w (by omega) (by omega)
  have hl := numB_length (s.size : Int)
  have e : blockB s.data.toList = Pl.numB (s.size : Int) ++ s.data.toList := by
    unfold blockB
    rw [show s.data.toList.length = s.size from by simp]
  rw [e]
  generalize Pl.numB (s.size : Int) = l at *
  have hlen : (⟨l.toArray⟩ : ByteArray).size ≤ 9 := by
    have : (⟨l.toArray⟩ : ByteArray).size = l.length := by simp [ByteArray.size]
    omega
  go_enter Try.func19, Try.ntmps19
  go_wp2_with (refine hc.out.mono ?_; rintro e w1 ⟨rfl, hb⟩; have HB := Lib.hid hb; clear hb)
  go_ret
  exact ⟨ret_str (add_mk' l s), HB.out⟩
end Go.Proofs.Ytmflmckmamckfaa
