/-
  What Term and Folded answer, the program's and the document's own; the fixed answer that each statement asks first.
-/
import Derived.Test.YtedloedfbegbkaaDoorTr
namespace Go.Proofs.YtedloedfbegbkaaDoor
open Go.RowKit

/-- What Term answers. -/
def OnePost (w : World) (l : List UInt8) (e : Ending) (w' : World) : Prop :=
  e = .returned (.tuple #[.string ⟨(Ut.oneS l).toArray⟩, .int .i64 (Ut.oneE l)]) ∧ Below w.heap.size w w'
namespace Ut
theorem oneE_no {l : List UInt8} (h : tokE l ≠ 0) : oneE l = tokE l ∧ oneS l = [] := by
  have e : oneE l = tokE l := if_neg h
  refine ⟨e, ?_⟩
  unfold oneS
  rw [e, if_neg h]
theorem oneE_many {l : List UInt8} (h : tokE l = 0) (h1 : (tokS l).length ≠ 1) : oneE l = 20 ∧ oneS l = [] := by
  have e : oneE l = 20 := by unfold oneE; rw [if_pos h, if_neg h1]
  refine ⟨e, ?_⟩
  unfold oneS
  rw [e]
  rfl
theorem oneE_yes {l : List UInt8} (h : tokE l = 0) (t : List UInt8) (h1 : tokS l = [t]) : oneE l = 0 ∧ oneS l = t := by
  have e : oneE l = 0 := by unfold oneE; rw [if_pos h, h1]; rfl
  refine ⟨e, ?_⟩
  unfold oneS
  rw [if_pos e, h1]
  rfl
end Ut

set_option maxRecDepth 100000 in
set_option maxHeartbeats 2000000 in
theorem term_any (w : World) (s : ByteArray) (hT : Tabs w) : Calls Tryd.prog 8 #[.string s] w (OnePost w s.data.toList) := by
  have ht := tokens_any w s hT
  unfold TokPost at ht
  have hno := @Ut.oneE_no s.data.toList
  have hmany := @Ut.oneE_many s.data.toList
  have hyes := @Ut.oneE_yes s.data.toList
  unfold OnePost
  generalize Ut.oneE s.data.toList = E1 at *
  generalize Ut.oneS s.data.toList = S1 at *
  generalize Ut.tokE s.data.toList = E at *
  generalize Ut.tokS s.data.toList = S at *
  have HT := Lib.hid ht
  clear ht
  by_cases h0 : E = 0
  · have hsplit : (∃ t, S = [t]) ∨ S.length ≠ 1 := by
      by_cases h1 : S.length = 1
      · exact .inl (List.length_eq_one_iff.1 h1)
      · exact .inr h1
    rcases hsplit with ⟨t, ht⟩ | h1
    · obtain ⟨rfl, rfl⟩ := hyes h0 t ht
      subst h0 ht
      clear hno hmany hyes
      go_enter Tryd.func8, Tryd.ntmps8
      go_wp2_with fail
      refine HT.out.mono ?_
      rintro e w1 ⟨v, rfl, hown, hb⟩
      obtain ⟨g, a, cap, rfl, _, _, ha, _, hc⟩ := hown.opened
      obtain ⟨rfl, hg⟩ := ha (by simp [Ut.toks])
      obtain ⟨c1, _, _⟩ := hc 0 (by simp [Ut.toks])
      rw [Nat.zero_mul] at c1
      have c2 : w1.cell? ⟨g, 0, none⟩ = some (.string ⟨S1.toArray⟩) := c1
      have HB := Lib.hid hb
      rw [show (Ut.toks [S1]).length = 1 from rfl]
      clear c1 hc hown hb
      go_wp2_with fail
      go_ret2
      exact ⟨rfl, HB.out⟩
    · obtain ⟨rfl, rfl⟩ := hmany h0 h1
      subst h0
      have hl : (Ut.toks S).length ≠ 1 := by rw [Ut.toks_length]; exact h1
      clear hno hmany hyes h1
      generalize Ut.toks S = X at *
      have hl2 : ((X.length : Int) != 1) = true := by simp; omega
      have hl3 : ¬ (X.length : Int) = 1 := by omega
      go_enter Tryd.func8, Tryd.ntmps8
      go_wp2_with fail
      refine HT.out.mono ?_
      rintro e w1 ⟨v, rfl, hown, hb⟩
      obtain ⟨g, a, cap, rfl, _, _, ha, _, hc⟩ := hown.opened
      have HB := Lib.hid hb
      clear ha hc hown hb
      go_wp2_with fail
      go_ret2
      exact ⟨rfl, HB.out⟩
  · obtain ⟨rfl, rfl⟩ := hno h0
    have h1 : (E1 != 0) = true := by simpa using h0
    clear hno hmany hyes
    go_enter Tryd.func8, Tryd.ntmps8
    go_wp2_with fail
    refine HT.out.mono ?_
    rintro e w1 ⟨v, rfl, _, hb⟩
    have HB := Lib.hid hb
    clear hb
    go_wp2_with fail
    go_ret2
    exact ⟨rfl, HB.out⟩

set_option maxRecDepth 100000 in
set_option maxHeartbeats 2000000 in
theorem termR_any (w : World) (s : ByteArray) : Calls Tryd.prog 9 #[.string s] w (OnePost w s.data.toList) := by
  have ht := tokensR_any w s
  unfold TokPost at ht
  have hno := @Ut.oneE_no s.data.toList
  have hmany := @Ut.oneE_many s.data.toList
  have hyes := @Ut.oneE_yes s.data.toList
  unfold OnePost
  generalize Ut.oneE s.data.toList = E1 at *
  generalize Ut.oneS s.data.toList = S1 at *
  generalize Ut.tokE s.data.toList = E at *
  generalize Ut.tokS s.data.toList = S at *
  have HT := Lib.hid ht
  clear ht
  by_cases h0 : E = 0
  · have hsplit : (∃ t, S = [t]) ∨ S.length ≠ 1 := by
      by_cases h1 : S.length = 1
      · exact .inl (List.length_eq_one_iff.1 h1)
      · exact .inr h1
    rcases hsplit with ⟨t, ht⟩ | h1
    · obtain ⟨rfl, rfl⟩ := hyes h0 t ht
      subst h0 ht
      clear hno hmany hyes
      go_enter Tryd.func9, Tryd.ntmps9
      go_wp2_with fail
      refine HT.out.mono ?_
      rintro e w1 ⟨v, rfl, hown, hb⟩
      obtain ⟨g, a, cap, rfl, _, _, ha, _, hc⟩ := hown.opened
      obtain ⟨rfl, hg⟩ := ha (by simp [Ut.toks])
      obtain ⟨c1, _, _⟩ := hc 0 (by simp [Ut.toks])
      rw [Nat.zero_mul] at c1
      have c2 : w1.cell? ⟨g, 0, none⟩ = some (.string ⟨S1.toArray⟩) := c1
      have HB := Lib.hid hb
      rw [show (Ut.toks [S1]).length = 1 from rfl]
      clear c1 hc hown hb
      go_wp2_with fail
      go_ret2
      exact ⟨rfl, HB.out⟩
    · obtain ⟨rfl, rfl⟩ := hmany h0 h1
      subst h0
      have hl : (Ut.toks S).length ≠ 1 := by rw [Ut.toks_length]; exact h1
      clear hno hmany hyes h1
      generalize Ut.toks S = X at *
      have hl2 : ((X.length : Int) != 1) = true := by simp; omega
      have hl3 : ¬ (X.length : Int) = 1 := by omega
      go_enter Tryd.func9, Tryd.ntmps9
      go_wp2_with fail
      refine HT.out.mono ?_
      rintro e w1 ⟨v, rfl, hown, hb⟩
      obtain ⟨g, a, cap, rfl, _, _, ha, _, hc⟩ := hown.opened
      have HB := Lib.hid hb
      clear ha hc hown hb
      go_wp2_with fail
      go_ret2
      exact ⟨rfl, HB.out⟩
  · obtain ⟨rfl, rfl⟩ := hno h0
    have h1 : (E1 != 0) = true := by simpa using h0
    clear hno hmany hyes
    go_enter Tryd.func9, Tryd.ntmps9
    go_wp2_with fail
    refine HT.out.mono ?_
    rintro e w1 ⟨v, rfl, _, hb⟩
    have HB := Lib.hid hb
    clear hb
    go_wp2_with fail
    go_ret2
    exact ⟨rfl, HB.out⟩

end Go.Proofs.YtedloedfbegbkaaDoor
