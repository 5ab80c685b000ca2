/-
  The program's number of a text.
-/
import Derived.Test.YthlbeehlcgnggaaRy
namespace Go.Proofs.Ythlbeehlcgnggaa
open Go.RowKit

theorem Rf.cut_nopoint (l : List UInt8) (h : (Rf.cut46 l).2.2 = false) : (Rf.cut46 l).2.1 = [] := by
  induction l with
  | nil => rfl
  | cons c r ih =>
    simp only [Rf.cut46] at h ⊢
    split at h
    · cases h
    · rename_i hne
      rw [if_neg hne]
      exact ih h
theorem Rf.cut_len (l : List UInt8) : (Rf.cut46 l).1.length ≤ l.length ∧ (Rf.cut46 l).2.1.length ≤ l.length := by
  induction l with
  | nil => simp [Rf.cut46]
  | cons c r ih =>
    simp only [Rf.cut46]
    split <;> simp <;> omega

set_option maxHeartbeats 1000000 in
theorem parseSize_any (s : ByteArray) (hs : s.size ≤ 9223372036854775806) (w : World) :
    Calls Try.prog 24 #[.string s] w fun e w' => e = .returned (.tuple (ansF (Rf.number s.data.toList))) ∧ Below w.heap.size w w' := by
  by_cases hinf : s.data.toList = [105, 110, 102]
  · have hr : Rf.number s.data.toList = some 9218868437227405312 := by
      unfold Rf.number
      rw [if_pos hinf]
    rw [hr]
    have q1 : (s.toList == ([105, 110, 102] : List UInt8)) = true := by rw [ByteArray.toList_eq, hinf]; rfl
    clear hr hinf
    go_enter Try.func24, Try.ntmps24
    go_wp2_with (go_at_call 30; refine (inf_any _).mono ?_; rintro e w' ⟨rfl, rfl⟩)
    go_ret2
    exact ⟨rfl, Below.refl _ _⟩
  have hr : Rf.number s.data.toList = (Rf.size s.data.toList).map fun p => Rf.ratio p.1 p.2 := by
    unfold Rf.number
    rw [if_neg hinf]
  have q1 : (s.toList == ([105, 110, 102] : List UInt8)) = false := by rw [ByteArray.toList_eq]; exact beq_eq_false_iff_ne.2 hinf
  rw [hr]
  clear hr hinf
  obtain ⟨a, b, ha, hb, hc⟩ := cut_two s hs
  have hlen : s.data.toList.length = s.size := Array.length_toList
  have la : a.data.toList.length = a.size := Array.length_toList
  have lb : b.data.toList.length = b.size := Array.length_toList
  have hcl := Rf.cut_len s.data.toList
  have hnp := Rf.cut_nopoint s.data.toList
  unfold Rf.size
  rw [← ha, ← hb] at hcl ⊢
  rw [← hb] at hnp
  generalize (Rf.cut46 s.data.toList).2.2 = pt at *
  clear ha hb
  rw [la, lb, hlen] at hcl
  obtain ⟨D, hD1, hD2, hD⟩ := areDigits_two a b (by omega) (by omega)
  rw [← hD1, ← hD2]
  by_cases hok : (D a 12 && (!pt || D b 3)) = true
  · rw [if_pos hok]
    rw [Bool.and_eq_true] at hok
    obtain ⟨g1, g2⟩ := hok
    have g2 : pt = false ∨ pt = true ∧ D b 3 = true := by
      cases pt
      · exact .inl rfl
      · exact .inr ⟨rfl, by simpa using g2⟩
    have ga := hD1.symm.trans g1
    unfold Rf.areD at ga
    rw [Bool.and_eq_true] at ga
    have ga1 := (of_decide_eq_true ga.1).2
    have gb : b.size ≤ 3 ∧ b.data.toList.all Rf.isD = true := by
      rcases g2 with h | ⟨_, h⟩
      · have := hnp h
        rw [this] at lb ⊢
        exact ⟨by simp only [List.length_nil] at lb; omega, rfl⟩
      · have h := hD2.symm.trans h
        unfold Rf.areD at h
        rw [Bool.and_eq_true] at h
        have h1 := (of_decide_eq_true h.1).2
        exact ⟨by omega, h.2⟩
    exact parseSize_good s a b pt q1 D g1 g2 (by rw [List.all_append, ga.2, gb.2]; rfl) (by omega) gb.1 hc hD w
  · rw [if_neg hok]
    refine parseSize_bad s a b pt q1 D ?_ hc hD w
    unfold Bad
    cases h1 : D a 12
    · exact .inl rfl
    · right
      rw [h1] at hok
      cases pt
      · simp at hok
      · cases h3 : D b 3
        · exact ⟨rfl, rfl, rfl⟩
        · rw [h3] at hok
          simp at hok

/-- What Parse answers. -/
def ansP : Option Nat → Array Value
  | some x => #[.int .u64 (x : Nat), .int .i64 0]
  | .none => #[.int .u64 0, .int .i64 3]

theorem prefix_minus (l : List UInt8) : Lib.hasPrefix l [45] = decide (l.head? = some 45) ∧ Lib.trimPrefix l [45] = if l.head? = some 45 then l.tail else l := by
  have h : Lib.hasPrefix l [45] = decide (l.head? = some 45) := by
    unfold Lib.hasPrefix
    cases l with
    | nil => simp
    | cons c r =>
      simp [List.isPrefixOf]
      by_cases hc : c = 45
      · simp [hc]
      · simp [hc]
        exact fun h => hc h.symm
  refine ⟨h, ?_⟩
  unfold Lib.trimPrefix
  rw [h]
  by_cases hc : l.head? = some 45
  · simp [hc]
  · simp [hc]

set_option maxRecDepth 100000 in
set_option maxHeartbeats 2000000 in
theorem parse_any (s : ByteArray) (hs : s.size ≤ 9223372036854775806) (w : World) :
    Calls Try.prog 16 #[.string s] w fun e w' => e = .returned (.tuple (ansP (Rf.parse s.data.toList))) ∧ Below w.heap.size w w' := by
  by_cases hnan : s.data.toList = [110, 97, 110]
  · have hr : Rf.parse s.data.toList = some 9221120237041090560 := by
      unfold Rf.parse
      rw [if_pos hnan]
    rw [hr]
    have q1 : (s.toList == ([110, 97, 110] : List UInt8)) = true := by rw [ByteArray.toList_eq, hnan]; rfl
    clear hr hnan
    go_enter Try.func16, Try.ntmps16
    go_wp2_with fail
    go_ret2
    exact ⟨rfl, Below.refl _ _⟩
  have q1 : (s.toList == ([110, 97, 110] : List UInt8)) = false := by rw [ByteArray.toList_eq]; exact beq_eq_false_iff_ne.2 hnan
  have hp := Try.strings_CutPrefix s ⟨#[45]⟩
  obtain ⟨p1, p2⟩ := prefix_minus s.data.toList
  have p1 : Lib.hasPrefix s.data.toList (ByteArray.mk #[45]).data.toList = _ := p1
  have p2 : Lib.trimPrefix s.data.toList (ByteArray.mk #[45]).data.toList = _ := p2
  rw [p1, p2] at hp
  clear p1 p2
  have hlen : s.data.toList.length = s.size := Array.length_toList
  have e1 := from_ext
  have e2 := bits_ext
  by_cases hm : s.data.toList.head? = some 45
  · have hr : Rf.parse s.data.toList = (Rf.number s.data.toList.tail).map (· + 9223372036854775808) := by
      unfold Rf.parse
      rw [if_neg hnan, if_pos hm]
    rw [hr]
    rw [if_pos hm, decide_eq_true hm] at hp
    obtain ⟨u, hu⟩ : ∃ u : ByteArray, u = ⟨s.data.toList.tail.toArray⟩ := ⟨_, rfl⟩
    have hul : u.data.toList = s.data.toList.tail := by rw [hu]
    rw [← hu] at hp
    have hz := parseSize_any u (by
      have h1 : u.data.toList.length = u.size := Array.length_toList
      rw [hul, List.length_tail] at h1
      omega)
    have hle := Rf.number_le u.data.toList
    rw [← hul]
    generalize Rf.number u.data.toList = o at *
    clear hr hnan hlen hm hul hu
    cases o with
    | none =>
      go_enter Try.func16, Try.ntmps16
      go_wp2_with fail
      go_at_call 23
      refine (hp _).mono ?_
      rintro e w1 ⟨rfl, rfl⟩
      go_wp2_with fail
      go_at_call 24
      refine (hz _).mono ?_
      rintro e w2 ⟨rfl, hb⟩
      have HB := Lib.hid hb
      clear hb hz hp hle
      simp only [ansF]
      go_wp2_with fail
      go_ret2
      exact ⟨rfl, HB.out⟩
    | some x =>
      have hx := hle x rfl
      go_enter Try.func16, Try.ntmps16
      go_wp2_with fail
      go_at_call 23
      refine (hp _).mono ?_
      rintro e w1 ⟨rfl, rfl⟩
      go_wp2_with fail
      go_at_call 24
      refine (hz _).mono ?_
      rintro e w2 ⟨rfl, hb⟩
      have HB := Lib.hid hb
      clear hb hz hp hle
      simp only [ansF]
      go_wp2_with fail
      go_at_call 25
      refine (copysign_any x (by omega) _).mono ?_
      rintro e w3 ⟨rfl, rfl⟩
      go_wp2_with fail
      go_ret2
      exact ⟨rfl, HB.out⟩
  · have hr : Rf.parse s.data.toList = Rf.number s.data.toList := by
      unfold Rf.parse
      rw [if_neg hnan, if_neg hm]
    rw [hr]
    rw [if_neg hm, decide_eq_false hm] at hp
    have hu : (⟨s.data.toList.toArray⟩ : ByteArray) = s := rfl
    rw [hu] at hp
    have hz := parseSize_any s hs
    generalize Rf.number s.data.toList = o at *
    clear hr hnan hlen hm hu
    cases o with
    | none =>
      go_enter Try.func16, Try.ntmps16
      go_wp2_with fail
      go_at_call 23
      refine (hp _).mono ?_
      rintro e w1 ⟨rfl, rfl⟩
      go_wp2_with fail
      go_at_call 24
      refine (hz _).mono ?_
      rintro e w2 ⟨rfl, hb⟩
      have HB := Lib.hid hb
      clear hb hz hp
      simp only [ansF]
      go_wp2_with fail
      go_ret2
      exact ⟨rfl, HB.out⟩
    | some x =>
      go_enter Try.func16, Try.ntmps16
      go_wp2_with fail
      go_at_call 23
      refine (hp _).mono ?_
      rintro e w1 ⟨rfl, rfl⟩
      go_wp2_with fail
      go_at_call 24
      refine (hz _).mono ?_
      rintro e w2 ⟨rfl, hb⟩
      have HB := Lib.hid hb
      clear hb hz hp
      simp only [ansF]
      go_wp2_with fail
      go_ret2
      exact ⟨rfl, HB.out⟩

end Go.Proofs.Ythlbeehlcgnggaa
