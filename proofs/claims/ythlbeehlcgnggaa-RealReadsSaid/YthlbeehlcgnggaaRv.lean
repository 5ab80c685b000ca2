/-
  The given package's number of a text, whatever the text; the walk of the statement on all texts.
-/
import Derived.Test.YthlbeehlcgnggaaRs
import Derived.Test.YthlbeehlcgnggaaRa
namespace Go.Proofs.Ythlbeehlcgnggaa
open Go.RowKit

set_option maxRecDepth 100000 in
set_option maxHeartbeats 1000000 in
theorem refParse_nan (s : ByteArray) (q1 : (s.toList == ([110, 97, 110] : List UInt8)) = true) (w : World) :
    Calls Try.prog 17 #[.string s] w fun e w' => e = .returned (.tuple (ansP (some 9221120237041090560))) ∧ ∃ n, w' = w.drewN n := by
  go_enter Try.func17, Try.ntmps17
  go_wp2_with fail
  go_ret2
  exact ⟨rfl, 0, rfl⟩
set_option maxRecDepth 100000 in
set_option maxHeartbeats 1000000 in
theorem refParse_inf (s : ByteArray) (q1 : (s.toList == ([110, 97, 110] : List UInt8)) = false) (q2 : (s.toList == ([105, 110, 102] : List UInt8)) = true) (w : World) :
    Calls Try.prog 17 #[.string s] w fun e w' => e = .returned (.tuple (ansP (some 9218868437227405312))) ∧ ∃ n, w' = w.drewN n := by
  go_enter Try.func17, Try.ntmps17
  go_wp2_with fail
  go_ret2
  exact ⟨rfl, 0, rfl⟩
set_option maxRecDepth 100000 in
set_option maxHeartbeats 1000000 in
theorem refParse_less (s : ByteArray) (q1 : (s.toList == ([110, 97, 110] : List UInt8)) = false) (q2 : (s.toList == ([105, 110, 102] : List UInt8)) = false) (q3 : (s.toList == ([45, 105, 110, 102] : List UInt8)) = true) (w : World) :
    Calls Try.prog 17 #[.string s] w fun e w' => e = .returned (.tuple (ansP (some 18442240474082181120))) ∧ ∃ n, w' = w.drewN n := by
  go_enter Try.func17, Try.ntmps17
  go_wp2_with fail
  go_ret2
  exact ⟨rfl, 0, rfl⟩
set_option maxRecDepth 100000 in
set_option maxHeartbeats 1000000 in
theorem refParse_none (w : World) :
    Calls Try.prog 17 #[.string ⟨#[]⟩] w fun e w' => e = .returned (.tuple (ansP .none)) ∧ ∃ n, w' = w.drewN n := by
  have hd : ∀ W, Calls Try.prog 27 #[.string ⟨#[]⟩, .int .i64 12] W fun e w' => e = .returned (.tuple #[.int .i64 0, .int .u64 0]) ∧ w' = W := fun W => digits_any ⟨#[]⟩ (by decide) 12 (by decide) W
  have q1 : ((ByteArray.mk #[]).toList == ([110, 97, 110] : List UInt8)) = false := by rw [ByteArray.toList_eq]; rfl
  have q2 : ((ByteArray.mk #[]).toList == ([105, 110, 102] : List UInt8)) = false := by rw [ByteArray.toList_eq]; rfl
  have q3 : ((ByteArray.mk #[]).toList == ([45, 105, 110, 102] : List UInt8)) = false := by rw [ByteArray.toList_eq]; rfl
  have q4 : (ByteArray.mk #[]).size = 0 := rfl
  have HD := Lib.hid hd
  clear hd
  generalize ByteArray.mk #[] = s at *
  go_enter Try.func17, Try.ntmps17
  go_wp2_with fail
  go_at_call 27
  refine (HD.out _).mono ?_
  rintro e w1 ⟨rfl, rfl⟩
  go_wp2_with fail
  go_ret2
  exact ⟨rfl, 0, rfl⟩

theorem size_nan : Rf.size [110, 97, 110] = .none := by decide
theorem refParse_any (s : ByteArray) (hs : s.size ≤ 9223372036854775806) (w : World) :
    Calls Try.prog 17 #[.string s] w fun e w' => e = .returned (.tuple (ansP (Rf.parse s.data.toList))) ∧ ∃ n, w' = w.drewN n := by
  have hlen : s.data.toList.length = s.size := Array.length_toList
  by_cases h1 : s.data.toList = [110, 97, 110]
  · have hr : Rf.parse s.data.toList = some 9221120237041090560 := by
      unfold Rf.parse
      rw [if_pos h1]
    rw [hr]
    exact refParse_nan s (by rw [ByteArray.toList_eq, h1]; rfl) w
  have q1 : (s.toList == ([110, 97, 110] : List UInt8)) = false := by rw [ByteArray.toList_eq]; exact beq_eq_false_iff_ne.2 h1
  by_cases h2 : s.data.toList = [105, 110, 102]
  · have hr : Rf.parse s.data.toList = some 9218868437227405312 := by rw [h2]; decide
    rw [hr]
    exact refParse_inf s q1 (by rw [ByteArray.toList_eq, h2]; rfl) w
  have q2 : (s.toList == ([105, 110, 102] : List UInt8)) = false := by rw [ByteArray.toList_eq]; exact beq_eq_false_iff_ne.2 h2
  by_cases h3 : s.data.toList = [45, 105, 110, 102]
  · have hr : Rf.parse s.data.toList = some 18442240474082181120 := by rw [h3]; decide
    rw [hr]
    exact refParse_less s q1 q2 (by rw [ByteArray.toList_eq, h3]; rfl) w
  have q3 : (s.toList == ([45, 105, 110, 102] : List UInt8)) = false := by rw [ByteArray.toList_eq]; exact beq_eq_false_iff_ne.2 h3
  by_cases h0 : s.size = 0
  · have hn : s.data.toList = [] := List.length_eq_zero_iff.1 (by omega)
    obtain rfl := mk_empty hn
    exact refParse_none w
  have h4 : 0 < s.size := by omega
  obtain ⟨c, r, hcr⟩ : ∃ c r, s.data.toList = c :: r := by
    cases h : s.data.toList with
    | nil => rw [h] at hlen; simp at hlen; omega
    | cons c r => exact ⟨c, r, rfl⟩
  have hc0 := first_of h4 hcr
  have hbe : ((s[0].toNat : Int) == 45) = decide (c = 45) := by
    rw [hc0]
    by_cases h : c = 45
    · subst h; rfl
    · rw [decide_eq_false h]
      have : c.toNat ≠ 45 := fun e => h (by rw [← UInt8.ofNat_toNat (x := c), e]; rfl)
      exact beq_eq_false_iff_ne.2 (by omega)
  by_cases hm : c = 45
  · obtain ⟨t, ht⟩ : ∃ t, s.extract 1 s.size = t := ⟨_, rfl⟩
    have et : t.data.toList = r := by rw [← ht, extract_drop, hcr]; rfl
    have lt : t.data.toList.length = t.size := Array.length_toList
    have hr : Rf.parse s.data.toList = (Rf.size t.data.toList).map fun p => Rf.ratio p.1 p.2 + 9223372036854775808 := by
      have hni : r ≠ [105, 110, 102] := fun e => h3 (by rw [hcr, hm, e])
      unfold Rf.parse
      rw [if_neg h1, hcr, List.head?_cons, if_pos (by rw [hm]), List.tail_cons]
      unfold Rf.number
      rw [if_neg hni, et, Option.map_map]
      rfl
    rw [hr]
    exact refParse_minus s t hs q1 q2 q3 h4 (by rw [hbe, decide_eq_true hm]) ht (by
      rw [hcr] at hlen
      rw [et] at lt
      simp only [List.length_cons] at hlen
      omega) w
  · have hr : Rf.parse s.data.toList = (Rf.size s.data.toList).map fun p => Rf.ratio p.1 p.2 := by
      unfold Rf.parse
      rw [if_neg h1, hcr, List.head?_cons, if_neg (fun e => hm (Option.some.inj e)), ← hcr]
      unfold Rf.number
      rw [if_neg h2]
    rw [hr]
    exact refParse_plus s q1 q2 q3 h4 (by rw [hbe, decide_eq_false hm]) hs w

set_option maxRecDepth 100000 in
set_option maxHeartbeats 1000000 in
theorem parses_walk (s : ByteArray) (hs : s.size ≤ 9223372036854775806) (w : World) :
    Calls Try.prog 5 #[.string s] w fun e w' => e = .returned (.bool true) ∧ Below w.heap.size w w' := by
  have h1 := Lib.hid (parse_any s hs w)
  have h2 := Lib.hid (fun W => refParse_any s hs W)
  have h3 := Lib.hid (fun W => awake_any W)
  obtain ⟨x, f, ho⟩ : ∃ (x : Nat) (f : Int), ansP (Rf.parse s.data.toList) = #[.int .u64 x, .int .i64 f] := by
    cases Rf.parse s.data.toList with
    | none => exact ⟨0, 3, rfl⟩
    | some x => exact ⟨x, 0, rfl⟩
  rw [ho] at h1 h2
  clear ho
  go_enter Try.func5, Try.ntmps5
  go_wp2_with fail
  refine h1.out.mono ?_
  rintro e w1 ⟨rfl, hb⟩
  have HB1 := Lib.hid hb
  clear hb h1
  go_wp2_with fail
  refine (h2.out _).mono ?_
  rintro e w2 ⟨rfl, n, hn⟩
  have HB2 : Hid (Below w.heap.size w w2) := by
    rw [hn]
    exact belowN HB1.out n
  clear hn h2 HB1
  go_wp2_with fail
  refine (h3.out _).mono ?_
  rintro e w3 ⟨rfl, hb⟩
  have HB3 : Hid (Below w.heap.size w w3) := chain HB2.out hb
  clear hb
  have e1 : ((x : Int) == (x : Int)) = true := by simp
  have e2 : (f == f) = true := by simp
  go_wp2_with fail
  go_ret
  exact ⟨rfl, HB3.out⟩

end Go.Proofs.Ythlbeehlcgnggaa
