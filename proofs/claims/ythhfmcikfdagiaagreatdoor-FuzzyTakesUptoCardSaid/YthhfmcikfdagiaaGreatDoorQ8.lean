/-
  Lemmas on automata, the program's calls and the given ones, put together of 7 texts (part 8).
-/
import Derived.Test.YthhfmcikfdagiaaGreatDoorQ7
import Derived.Test.YthhfmcikfdagiaaGreatDoorQ6
import Derived.Test.YthhfmcikfdagiaaGreatDoorQ2
import Derived.Test.YthhfmcikfdagiaaGreatDoorCards
import Derived.Test.YthhfmcikfdagiaaGreatDoorTie
import Derived.ProofKit
import Derived.OpenShut
import Derived.ShutString
import Derived.ChangeOld
import Derived.SizedLaws
import Derived.Deep.DeepHandedRow
import Derived.Deep.DeepWitnessRowRef
import Derived.Lib.LaidIn
import Derived.Lib.LaidU8T
import Derived.PinnedBridge
import Derived.Test.YthhfmcikfdagiaaGreatDoorRows
import Derived.JoinedCond
import Derived.SliceStrings
import Derived.Deep.Strs
/-
  What Fuzzy and the document's May answer; and the fixed answers of the stage.
-/
namespace Go.Proofs.YthhfmcikfdagiaaGreatDoor
open Go.RowKit

namespace Lv
/-- The error of a word, of edits and of exact characters. -/
def faE (l : List UInt8) (K x : Int) : Int := if Wl.letE l [] = 0 then (if 0 ≤ K ∧ K ≤ 2 ∧ 0 ≤ x ∧ x ≤ ((Wl.letS l []).length : Int) then 0 else 1) else Wl.letE l []
theorem faE_ok {l : List UInt8} {K x : Int} (h : faE l K x = 0) : Wl.letE l [] = 0 ∧ 0 ≤ K ∧ K ≤ 2 ∧ 0 ≤ x ∧ x ≤ ((Wl.letS l []).length : Int) := by
  unfold faE at h
  split at h
  · rename_i h0
    split at h
    · rename_i h1; exact ⟨h0, h1⟩
    · cases h
  · rename_i h0; exact absurd h h0
theorem faE_word {l : List UInt8} {K x : Int} (h : ¬ Wl.letE l [] = 0) : faE l K x = Wl.letE l [] := if_neg h
theorem faE_num {l : List UInt8} {K x : Int} (h : Wl.letE l [] = 0) (h2 : ¬ (0 ≤ K ∧ K ≤ 2 ∧ 0 ≤ x ∧ x ≤ ((Wl.letS l []).length : Int))) : faE l K x = 1 := by
  unfold faE
  rw [if_pos h, if_neg h2]
end Lv

theorem letters_none (w : World) (s : ByteArray) (hT : Tabs w) (hs : s.size ≤ 17592186044415) : Calls Tryz.prog 11 #[.string s, .string ⟨#[]⟩] w fun e w' => ∃ v, e = .returned (.tuple #[v, .int .i64 (Wl.letE s.data.toList [])]) ∧ OwnI w' w.heap.size v (Wl.letS s.data.toList []) ∧ Below w.heap.size w w' := by
  have hl := letters_any w s ⟨#[]⟩ hT hs
  unfold LetPost at hl
  exact hl

set_option maxRecDepth 100000 in
set_option maxHeartbeats 1000000 in
theorem fuzzy_ok (w : World) (s : ByteArray) (hT : Tabs w) (hs : s.size ≤ 17592186044415) (h : Wl.letE s.data.toList [] = 0) {K x : Nat} (hK : K ≤ 2) (hx : x ≤ (Wl.letS s.data.toList []).length) {d : List Au.St} (hd : Lv.Out (Wl.letS s.data.toList []) K x d) :
    Calls Tryz.prog 4 #[.string s, .int .i64 (K : Int), .int .i64 (x : Int)] w fun e w' => ∃ v, e = .returned (.tuple #[v, .int .i64 0]) ∧ StO w.heap.size w' v d ∧ Below w.heap.size w w' := by
  have hl := letters_none w s hT hs
  rw [h] at hl
  have hlen := (Wl.letE_ok h).2.2.2.1
  have he := hd.e
  have hdl := hd.l
  generalize Wl.letS s.data.toList [] = S at *
  have HLO : Hid (∀ W u, IntS W u S → Calls Tryz.prog 13 #[u, .int .i64 (K : Int), .int .i64 (x : Int)] W fun e w' => ∃ v' vals, e = .returned v' ∧ LoO w' W.heap.size v' vals (Lv.auto S K x) ∧ Below W.heap.size W w') := fun W u hu => looseOf_any W u S hu hlen K x hK hx
  have HTT : Hid (∀ W u, LoS (fun _ => True) W u (Lv.auto S K x) → Calls Tryz.prog 12 #[u, .int .i64 20000] W fun e w' => ∃ v, e = .returned (.tuple #[v, .int .i64 0]) ∧ StO W.heap.size w' v d ∧ Below W.heap.size W w') := fun W u hu => by
    have hb := Lv.auto_bound (K := K) (x := x) hlen hx hK
    have := tightP_any (fun _ => True) W u (Lv.auto S K x) 20000 hu (by omega) (Lv.auto_rows hlen hx hK) (by decide)
    rw [he, hdl] at this
    exact this
  have HL := Lib.hid hl
  have i1 : ¬ (K : Int) < 0 := by omega
  have i2 : ¬ (2 : Int) < (K : Int) := by omega
  have i3 : ¬ (x : Int) < 0 := by omega
  have i4 : ¬ ((S.length : Nat) : Int) < (x : Int) := by omega
  clear hl h hd he hdl hT
  go_enter Tryz.func4, Tryz.ntmps4
  go_wp2_with fail
  refine HL.out.mono ?_
  rintro e w1 ⟨v, rfl, hown, hb⟩
  have HI1 := Lib.hid (hown.ints (by omega))
  have HB := Lib.hid hb
  have HLW := Lib.hid (HLO.out w1 _ HI1.out)
  obtain ⟨a6, c6, rfl, _⟩ := ownI_cells hown
  clear hown hb
  go_wp2_with fail
  refine HLW.out.mono ?_
  rintro e w2 ⟨v2, vals, rfl, hO2, hb2⟩
  have HT2 := Lib.hid (HTT.out w2 v2 (hO2.los _ fun _ _ => trivial))
  have HB2 : Hid (Below w.heap.size w w2) := HB.out.trans (hb2.mono HB.out.size)
  clear hO2 hb2
  go_wp2_with fail
  refine HT2.out.mono ?_
  rintro e w3 ⟨v3, rfl, hs3, hb3⟩
  have HS3 : Hid (StO w.heap.size w3 v3 d) := hs3.lower HB2.out.size
  have HB3 : Hid (Below w.heap.size w w3) := HB2.out.trans (hb3.mono HB2.out.size)
  clear hs3 hb3
  go_wp2_with fail
  go_ret2
  exact ⟨_, rfl, HS3.out, HB3.out⟩

set_option maxRecDepth 100000 in
set_option maxHeartbeats 1000000 in
theorem fuzzy_no (w : World) (s : ByteArray) (hT : Tabs w) (hs : s.size ≤ 17592186044415) (K x : Int) (h : ¬ Lv.faE s.data.toList K x = 0) :
    Calls Tryz.prog 4 #[.string s, .int .i64 K, .int .i64 x] w fun e w' => e = .returned (.tuple #[.slice none 0 0, .int .i64 (Lv.faE s.data.toList K x)]) ∧ Below w.heap.size w w' := by
  have hl := letters_none w s hT hs
  by_cases h0 : Wl.letE s.data.toList [] = 0
  · by_cases h1 : 0 ≤ K ∧ K ≤ 2 ∧ 0 ≤ x ∧ x ≤ ((Wl.letS s.data.toList []).length : Int)
    · exact absurd (by unfold Lv.faE; rw [if_pos h0, if_pos h1]) h
    · rw [Lv.faE_num h0 h1]
      rw [h0] at hl
      have hlen := (Wl.letE_ok h0).2.2.2.1
      generalize Wl.letS s.data.toList [] = S at *
      have HL := Lib.hid hl
      have hway : K < 0 ∨ (¬ K < 0 ∧ 2 < K) ∨ (¬ K < 0 ∧ ¬ 2 < K ∧ x < 0) ∨ (¬ K < 0 ∧ ¬ 2 < K ∧ ¬ x < 0 ∧ ((S.length : Nat) : Int) < x) := by omega
      clear hl h h0 h1 hT
      rcases hway with q1 | ⟨q1, q2⟩ | ⟨q1, q2, q3⟩ | ⟨q1, q2, q3, q4⟩
      all_goals
        go_enter Tryz.func4, Tryz.ntmps4
        go_wp2_with fail
        refine HL.out.mono ?_
        rintro e w1 ⟨v, rfl, hown, hb⟩
        have HB := Lib.hid hb
        obtain ⟨a6, c6, rfl, _⟩ := ownI_cells hown
        clear hown hb
        go_wp2_with fail
        go_ret2
        exact ⟨rfl, HB.out⟩
  · rw [Lv.faE_word h0]
    generalize Wl.letE s.data.toList [] = E at *
    have h1 : (E != 0) = true := by simpa using h0
    have HL := Lib.hid hl
    clear hl hT h h0
    go_enter Tryz.func4, Tryz.ntmps4
    go_wp2_with fail
    refine HL.out.mono ?_
    rintro e w1 ⟨v, rfl, _, hb⟩
    have HB := Lib.hid hb
    clear hb
    go_wp2_with fail
    go_ret2
    exact ⟨rfl, HB.out⟩
theorem lettersR_none (w : World) (s : ByteArray) (hs : s.size ≤ 17592186044415) : Calls Tryz.prog 14 #[.string s, .string ⟨#[]⟩] w fun e w' => ∃ v, e = .returned (.tuple #[v, .int .i64 (Wl.letE s.data.toList [])]) ∧ OwnI w' w.heap.size v (Wl.letS s.data.toList []) ∧ Below w.heap.size w w' := by
  have hl := lettersR_any w s ⟨#[]⟩ hs (by decide)
  unfold LetPost at hl
  exact hl
set_option maxRecDepth 100000 in
set_option maxHeartbeats 1000000 in
theorem mayR_ok (w : World) (s : ByteArray) (hs : s.size ≤ 17592186044415) (h : Wl.letE s.data.toList [] = 0) {K x : Nat} (hK : K ≤ 2) (hx : x ≤ (Wl.letS s.data.toList []).length) :
    Calls Tryz.prog 5 #[.string s, .int .i64 (K : Int), .int .i64 (x : Int)] w fun e w' => ∃ v, e = .returned (.tuple #[v, .int .i64 0]) ∧ OwnI w' w.heap.size v (Wl.letS s.data.toList []) ∧ Below w.heap.size w w' := by
  have hl := lettersR_none w s hs
  rw [h] at hl
  have hlen := (Wl.letE_ok h).2.2.2.1
  generalize Wl.letS s.data.toList [] = S at *
  have HL := Lib.hid hl
  have i1 : ¬ (K : Int) < 0 := by omega
  have i2 : ¬ (2 : Int) < (K : Int) := by omega
  have i3 : ¬ (x : Int) < 0 := by omega
  have i4 : ¬ ((S.length : Nat) : Int) < (x : Int) := by omega
  clear hl h
  go_enter Tryz.func5, Tryz.ntmps5
  go_wp2_with fail
  refine HL.out.mono ?_
  rintro e w1 ⟨v, rfl, hown, hb⟩
  have HO := Lib.hid hown
  have HB := Lib.hid hb
  obtain ⟨a6, c6, rfl, _⟩ := ownI_cells hown
  clear hown hb
  go_wp2_with fail
  go_ret2
  exact ⟨_, rfl, HO.out, HB.out⟩

set_option maxRecDepth 100000 in
set_option maxHeartbeats 1000000 in
theorem mayR_no (w : World) (s : ByteArray) (hs : s.size ≤ 17592186044415) (K x : Int) (h : ¬ Lv.faE s.data.toList K x = 0) :
    Calls Tryz.prog 5 #[.string s, .int .i64 K, .int .i64 x] w fun e w' => e = .returned (.tuple #[.slice none 0 0, .int .i64 (Lv.faE s.data.toList K x)]) ∧ Below w.heap.size w w' := by
  have hl := lettersR_none w s hs
  by_cases h0 : Wl.letE s.data.toList [] = 0
  · by_cases h1 : 0 ≤ K ∧ K ≤ 2 ∧ 0 ≤ x ∧ x ≤ ((Wl.letS s.data.toList []).length : Int)
    · exact absurd (by unfold Lv.faE; rw [if_pos h0, if_pos h1]) h
    · rw [Lv.faE_num h0 h1]
      rw [h0] at hl
      have hlen := (Wl.letE_ok h0).2.2.2.1
      generalize Wl.letS s.data.toList [] = S at *
      have HL := Lib.hid hl
      have hway : K < 0 ∨ (¬ K < 0 ∧ 2 < K) ∨ (¬ K < 0 ∧ ¬ 2 < K ∧ x < 0) ∨ (¬ K < 0 ∧ ¬ 2 < K ∧ ¬ x < 0 ∧ ((S.length : Nat) : Int) < x) := by omega
      clear hl h h0 h1
      rcases hway with q1 | ⟨q1, q2⟩ | ⟨q1, q2, q3⟩ | ⟨q1, q2, q3, q4⟩
      all_goals
        go_enter Tryz.func5, Tryz.ntmps5
        go_wp2_with fail
        refine HL.out.mono ?_
        rintro e w1 ⟨v, rfl, hown, hb⟩
        have HB := Lib.hid hb
        obtain ⟨a6, c6, rfl, _⟩ := ownI_cells hown
        clear hown hb
        go_wp2_with fail
        go_ret2
        exact ⟨rfl, HB.out⟩
  · rw [Lv.faE_word h0]
    generalize Wl.letE s.data.toList [] = E at *
    have h1 : (E != 0) = true := by simpa using h0
    have HL := Lib.hid hl
    clear hl h h0
    go_enter Tryz.func5, Tryz.ntmps5
    go_wp2_with fail
    refine HL.out.mono ?_
    rintro e w1 ⟨v, rfl, _, hb⟩
    have HB := Lib.hid hb
    clear hb
    go_wp2_with fail
    go_ret2
    exact ⟨rfl, HB.out⟩
end Go.Proofs.YthhfmcikfdagiaaGreatDoor

/-
  The fixed answers of the stage.
-/
namespace Go.Proofs.YthhfmcikfdagiaaGreatDoor
open Go.RowKit

namespace Lv
theorem awake_let : Wl.letE [102, 111, 120] [] = 0 ∧ Wl.letS [102, 111, 120] [] = [102, 111, 120] := by decide +kernel
theorem awake_dec : (Lib.validD [102, 97, 120] = true ∧ Ut.dec [102, 97, 120] = [102, 97, 120]) ∧ (Lib.validD [102, 111, 120, 121] = true ∧ Ut.dec [102, 111, 120, 121] = [102, 111, 120, 121]) ∧ Lib.validD [98, 111, 120] = true ∧ Ut.dec [98, 111, 120] = [98, 111, 120] := by decide +kernel
theorem awake_dist : dist [1, 2] [2] = 1 := by
  rw [dist_cons, dist_cons]
  simp [dist_nil, dist_nil']
theorem awake_near : within [102, 111, 120] 1 1 [102, 97, 120] ∧ within [102, 111, 120] 1 1 [102, 111, 120, 121] ∧ ¬ within [102, 111, 120] 1 1 [98, 111, 120] := by
  refine ⟨⟨by decide, rfl, ?_⟩, ⟨by decide, rfl, ?_⟩, fun h => ?_⟩
  · exact ed_dist (.sub 97 111 (.keep 120 .nil))
  · exact ed_dist (.keep 111 (.keep 120 (.del 121 .nil)))
  · have := h.2.1
    cases this
theorem Out.no {cs : List Int} {K x : Nat} {d : List Au.St} (h : Out cs K x d) {l : List UInt8} (hv : Lib.validD l = true) (hn : ¬ within cs K x (Ut.dec l)) : Au.takesL d l = false := by
  cases e : Au.takesL d l
  · rfl
  · exact absurd ((h.takes l hv).1 e) hn
end Lv

set_option maxRecDepth 100000 in
set_option maxHeartbeats 2000000 in
theorem fuzzyAwake_any (w : World) (hT : Tabs w) : Calls Tryz.prog 6 #[] w fun e w' => e = .returned (.bool true) ∧ Below w.heap.size w w' := by
  obtain ⟨k0, k1⟩ := Lv.awake_let
  obtain ⟨d, hd⟩ := Lv.word_out k0 (K := 1) (x := 1) (by rw [k1]; decide) (by decide)
  have HW : Hid (Calls Tryz.prog 4 #[.string ⟨#[102, 111, 120]⟩, .int .i64 1, .int .i64 1] w fun e w' => ∃ v, e = .returned (.tuple #[v, .int .i64 0]) ∧ StO w.heap.size w' v d ∧ Below w.heap.size w w') := fuzzy_ok w ⟨#[102, 111, 120]⟩ hT (by decide) k0 (K := 1) (x := 1) (by decide) (by rw [show (⟨#[102, 111, 120]⟩ : ByteArray).data.toList = [102, 111, 120] from rfl, k1]; decide) hd
  rw [k1] at hd
  obtain ⟨⟨v1, w1⟩, ⟨v2, w2⟩, v3, w3⟩ := Lv.awake_dec
  obtain ⟨n1, n2, n3⟩ := Lv.awake_near
  have HA : Hid (∀ W v, StS (fun _ => True) W v d → (Calls Tryz.prog 8 #[v, .string ⟨#[102, 97, 120]⟩] W fun e w' => e = .returned (.bool true) ∧ Below W.heap.size W w') ∧ (Calls Tryz.prog 8 #[v, .string ⟨#[102, 111, 120, 121]⟩] W fun e w' => e = .returned (.bool true) ∧ Below W.heap.size W w') ∧ (Calls Tryz.prog 8 #[v, .string ⟨#[98, 111, 120]⟩] W fun e w' => e = .returned (.bool false) ∧ Below W.heap.size W w')) := fun W v hv => by
    have h1 := acceptsP_any _ W v d ⟨#[102, 97, 120]⟩ (by decide) hv
    have h2 := acceptsP_any _ W v d ⟨#[102, 111, 120, 121]⟩ (by decide) hv
    have h3 := acceptsP_any _ W v d ⟨#[98, 111, 120]⟩ (by decide) hv
    have e1 : Au.takesL d (⟨#[102, 97, 120]⟩ : ByteArray).data.toList = true := (hd.takes _ v1).2 (by rw [w1]; exact n1)
    have e2 : Au.takesL d (⟨#[102, 111, 120, 121]⟩ : ByteArray).data.toList = true := (hd.takes _ v2).2 (by rw [w2]; exact n2)
    have e3 : Au.takesL d (⟨#[98, 111, 120]⟩ : ByteArray).data.toList = false := hd.no v3 (by rw [w3]; exact n3)
    rw [e1] at h1
    rw [e2] at h2
    rw [e3] at h3
    exact ⟨h1, h2, h3⟩
  have HD : Hid (∀ W : World, Calls Tryz.prog 15 #[.slice (some ⟨W.heap.size, 0, none⟩) 2 2, .slice (some ⟨W.heap.size + 1, 0, none⟩) 1 1] ((W.alloc (.cells #[.int .i64 1, .int .i64 2] 3)).alloc (.cells #[.int .i64 2] 3)) fun e w' => e = .returned (.int .i64 1) ∧ Below W.heap.size W w') := fun W => by
    have i1 : IntS (W.alloc (.cells #[.int .i64 1, .int .i64 2] 3)) (.slice (some ⟨W.heap.size, 0, none⟩) 2 2) [1, 2] := ints_lit W [1, 2] (by decide)
    have i2 : IntS ((W.alloc (.cells #[.int .i64 1, .int .i64 2] 3)).alloc (.cells #[.int .i64 2] 3)) (.slice (some ⟨W.heap.size + 1, 0, none⟩) 1 1) [2] := by
      have := ints_lit (W.alloc (.cells #[.int .i64 1, .int .i64 2] 3)) [2] (by decide)
      rw [show (W.alloc (.cells #[.int .i64 1, .int .i64 2] 3)).heap.size = W.heap.size + 1 from World.size_alloc _ _] at this
      exact this
    have hb : Below W.heap.size W ((W.alloc (.cells #[.int .i64 1, .int .i64 2] 3)).alloc (.cells #[.int .i64 2] 3)) := ((Below.refl _ _).alloc (Nat.le_refl _) _).alloc (by simp) _
    have i3 : IntS ((W.alloc (.cells #[.int .i64 1, .int .i64 2] 3)).alloc (.cells #[.int .i64 2] 3)) (.slice (some ⟨W.heap.size, 0, none⟩) 2 2) [1, 2] := i1.below ((Below.refl _ _).alloc (Nat.le_refl _) _) (Nat.le_refl _)
    refine (distP_any _ _ _ _ _ i3 i2 (by decide) (by decide)).mono ?_
    rintro e w' ⟨rfl, hb2⟩
    rw [Lv.awake_dist]
    exact ⟨rfl, hb.trans (hb2.mono hb.size)⟩
  clear hd k0 k1 v1 w1 v2 w2 v3 w3 n1 n2 n3 hT
  go_enter Tryz.func6, Tryz.ntmps6
  go_wp2_with fail
  refine HW.out.mono ?_
  rintro e w1 ⟨v, rfl, hs, hb⟩
  have HV : Hid (∀ W, Below w1.heap.size w1 W → StS (fun _ => True) W v d) := fun W hb => (hs.sts.below hb).wide fun _ _ _ => trivial
  have HB := Lib.hid hb
  have HA1 := Lib.hid (HA.out w1 v (HV.out w1 (Below.refl _ _))).1
  obtain ⟨a, c, rfl, _⟩ := hs.sts
  clear hs hb
  go_wp2_with fail
  refine HA1.out.mono ?_
  rintro e w2 ⟨rfl, hb2⟩
  have HB2 := Lib.hid hb2
  have HA2 := Lib.hid (HA.out w2 _ (HV.out w2 hb2)).2.1
  clear hb2
  go_wp2_with fail
  refine HA2.out.mono ?_
  rintro e w3 ⟨rfl, hb3⟩
  have HB3 : Hid (Below w1.heap.size w1 w3) := HB2.out.trans (hb3.mono HB2.out.size)
  have HA3 := Lib.hid (HA.out w3 _ (HV.out w3 HB3.out)).2.2
  clear hb3
  go_wp2_with fail
  refine HA3.out.mono ?_
  rintro e w4 ⟨rfl, hb4⟩
  have HB4 : Hid (Below w1.heap.size w1 w4) := HB3.out.trans (hb4.mono HB3.out.size)
  have HD4 := Lib.hid (HD.out w4)
  clear hb4
  go_wp2_with fail
  refine HD4.out.mono ?_
  rintro e w5 ⟨rfl, hb5⟩
  have HB5 : Hid (Below w1.heap.size w1 w5) := HB4.out.trans (hb5.mono HB4.out.size)
  clear hb5
  go_wp2_with fail
  go_ret
  exact ⟨rfl, HB.out.trans (HB5.out.mono HB.out.size)⟩
end Go.Proofs.YthhfmcikfdagiaaGreatDoor

/-
  DfaTakes: the walk.
-/
namespace Go.Proofs.YthhfmcikfdagiaaGreatDoor
open Go.RowKit
/-- A slice of texts that came in: empty, or a row of cells. -/
def TxtS (w : World) (a : Option Addr) (len : Nat) (ss : List ByteArray) : Prop :=
  ss.length = len ∧ (0 < len → ∃ b off, a = some ⟨b, off, none⟩ ∧ b < w.heap.size ∧ ∀ i (hi : i < ss.length), w.cell? ⟨b, off + i, none⟩ = some (.string ss[i]))

end Go.Proofs.YthhfmcikfdagiaaGreatDoor

/-
  FuzzyTakes: the walk.
-/
namespace Go.Proofs.YthhfmcikfdagiaaGreatDoor
open Go.RowKit

namespace Lv
theorem near_within {cs : List Int} {K x : Nat} (hx : x ≤ cs.length) (t : List Int) : nearB cs K x t = true ↔ within cs K x t := by
  have hl : (cs.take x).length = x := by rw [List.length_take]; omega
  unfold nearB within Wl.begins
  rw [Bool.and_eq_true, decide_eq_true_iff, decide_eq_true_iff, hl, dist_symm]
  constructor
  · rintro ⟨⟨h1, h2⟩, h3⟩
    exact ⟨h1, h2, h3⟩
  · rintro ⟨h1, h2, h3⟩
    exact ⟨⟨h1, h2⟩, h3⟩
theorem Out.near {cs : List Int} {K x : Nat} {d : List Au.St} (h : Out cs K x d) (hx : x ≤ cs.length) {l : List UInt8} (hv : Lib.validD l = true) : Au.takesL d l = nearB cs K x (Ut.dec l) := by
  rw [Bool.eq_iff_iff, h.takes l hv, near_within hx]
end Lv

set_option maxRecDepth 100000 in
set_option maxHeartbeats 4000000 in
theorem takesF_walk (w : World) (s : ByteArray) (K x : Int) (a : Option Addr) (len cap : Nat) (ss : List ByteArray) (hT : Tabs w) (hs : s.size ≤ 1048576) (ht : TxtS w a len ss) (hss : ∀ t ∈ ss, t.size ≤ 1048576) (_hl : len ≤ 9223372036854775807) :
    Calls Tryz.prog 3 #[.string s, .int .i64 K, .int .i64 x, .slice a len cap] w fun e w' => e = .returned (.bool true) ∧ Below w.heap.size w w' := by
  have HT := Lib.hid hT
  have HSS := Lib.hid hss
  have HTX := Lib.hid ht
  by_cases h0 : Lv.faE s.data.toList K x = 0
  · obtain ⟨e0, k1, k2, k3, k4⟩ := Lv.faE_ok h0
    obtain ⟨K, rfl⟩ : ∃ k : Nat, K = (k : Int) := ⟨K.toNat, by omega⟩
    obtain ⟨x, rfl⟩ : ∃ k : Nat, x = (k : Int) := ⟨x.toNat, by omega⟩
    have hK : K ≤ 2 := by omega
    have hx : x ≤ (Wl.letS s.data.toList []).length := by omega
    have hl1 := (Wl.letE_ok e0).2.2.1
    have hl16 := (Wl.letE_ok e0).2.2.2.1
    obtain ⟨d, hd⟩ := Lv.word_out e0 hx hK
    have HP := Lib.hid (fuzzy_ok w s hT (by omega) e0 hK hx hd)
    have HR := Lib.hid (fun W => mayR_ok W s (by omega) e0 hK hx)
    have HTK := Lib.hid (fun l h => hd.near hx (l := l) h)
    have HF := Lib.hid hd.fits
    generalize Wl.letS s.data.toList [] = S at *
    clear h0 e0 k1 k2 k3 k4 hd hT ht hss
    go_enter Tryz.func3, Tryz.ntmps3
    go_wp2_with fail
    refine HP.out.mono ?_
    rintro e w1 ⟨v1, rfl, hs1, hb1⟩
    have HV1 : Hid (∀ W, Below w1.heap.size w1 W → StS (fun _ => True) W v1 d) := fun W hb => (hs1.sts.below hb).wide fun _ _ _ => trivial
    have HB1 := Lib.hid hb1
    obtain ⟨a1, c1, rfl, _⟩ := hs1.sts
    clear hs1 hb1
    go_wp2_with fail
    refine (HR.out w1).mono ?_
    rintro e w2 ⟨v2, rfl, ho2, hb2⟩
    have HI2 := Lib.hid (ho2.ints (by omega))
    have HB12 := Lib.hid hb2
    have HB2 : Hid (Below w.heap.size w w2) := HB1.out.trans (hb2.mono HB1.out.size)
    obtain ⟨a2, c2, rfl, hcl⟩ := ownI_cells ho2
    obtain ⟨g2, rfl, _⟩ := hcl (by omega)
    have HT2 : Hid (Tabs w2) := HT.out.below HB2.out
    clear ho2 hb2 hcl
    go_wp2_with fail
    refine (fuzzyAwake_any w2 HT2.out).mono ?_
    rintro e w3 ⟨rfl, hb3⟩
    have HI3 : Hid (∀ W, Below w3.heap.size w3 W → IntS W (.slice (some ⟨g2, 0, none⟩) S.length c2) S) := fun W hb => (HI2.out.below hb3 (Nat.le_refl _)).below hb (Nat.le_refl _)
    have HB13 : Hid (Below w1.heap.size w1 w3) := HB12.out.trans (hb3.mono HB12.out.size)
    have HB3 : Hid (Below w.heap.size w w3) := HB2.out.trans (hb3.mono HB2.out.size)
    have HV3 : Hid (∀ W, Below w3.heap.size w3 W → StS (fun _ => True) W (.slice a1 d.length c1) d) := fun W hb => HV1.out W (HB13.out.trans (hb.mono HB13.out.size))
    have HTX3 : Hid (∀ W, Below w3.heap.size w3 W → ∀ i (hi : i < ss.length), ∃ b off, a = some ⟨b, off, none⟩ ∧ W.cell? ⟨b, off + i, none⟩ = some (.string ss[i])) := fun W hb i hi => by
      obtain ⟨h1, h2⟩ := HTX.out
      obtain ⟨b, off, e, hlt, hc⟩ := h2 (by omega)
      exact ⟨b, off, e, ((HB3.out.trans (hb.mono HB3.out.size)).cell (p := ⟨b, off + i, none⟩) hlt).trans (hc i hi)⟩
    have HLN : Hid (ss.length = len) := HTX.out.1
    clear hb3 HI2 HB12 HV1 HT2
    go_wp2_with fail
    go_loopg [13] len (fun g i wx => ∃ k : Nat, Below w3.heap.size w3 wx ∧ k ≤ len ∧ g = len - k ∧ i = .int .i64 k)
    case atStart => exact ⟨0, Below.refl _ _, Nat.zero_le _, rfl, rfl⟩
    case round =>
      obtain ⟨k, hbel, hk, rfl, rfl⟩ := hrel
      have HBE := Lib.hid hbel
      have HEND : Hid (Calls Tryz.prog 10 #[.slice a1 d.length c1] wr fun e w' => e = .returned (.int .i64 0) ∧ Below wr.heap.size wr w') := by
        have := checkP_any (fun _ => True) wr _ d (HV3.out wr hbel)
        rw [(Au.check_iff d).2 HF.out] at this
        exact this
      by_cases hkn : k < len
      · have i1 : (k : Int) < (len : Int) := by omega
        by_cases hk20 : k < 20
        · have i2 : (k : Int) < 20 := by omega
          have kx : k < ss.length := by rw [HLN.out]; exact hkn
          obtain ⟨b, off, rfl, hc1⟩ := HTX3.out wr hbel k kx
          have hsz := HSS.out ss[k] (List.getElem_mem kx)
          have hdc := decodeR_any wr ss[k] (by omega)
          unfold DecPost at hdc
          have HCX : Hid (∀ W, Below w3.heap.size w3 W → W.cell? ⟨b, off + k, none⟩ = some (.string ss[k])) := fun W hb => by
            obtain ⟨b', off', e, h⟩ := HTX3.out W hb k kx
            cases e
            exact h
          have HAC : Hid (∀ W, Below w3.heap.size w3 W → Ut.decE ss[k].data.toList = 0 → Calls Tryz.prog 8 #[.slice a1 d.length c1, .string ss[k]] W fun e w' => e = .returned (.bool (Lv.nearB S K x (Ut.decS ss[k].data.toList))) ∧ Below W.heap.size W w') := fun W hb he => by
            have hv : Lib.validD ss[k].data.toList = true := by
              cases h : Lib.validD ss[k].data.toList
              · rw [Ut.decE_no h] at he; cases he
              · rfl
            have := acceptsP_any _ W _ d ss[k] (by omega) (HV3.out W hb)
            rw [HTK.out _ hv] at this
            rw [Ut.decS_yes hv]
            exact this
          have hdl := Ut.decS_length ss[k].data.toList
          rw [show ss[k].data.toList.length = ss[k].size from by simp] at hdl
          generalize Ut.decE ss[k].data.toList = E at *
          generalize Ut.decS ss[k].data.toList = D at *
          generalize ss[k] = t at *
          have HD := Lib.hid hdc
          clear hbel hdc
          go_wp2_with fail
          refine HD.out.mono ?_
          rintro e w4 ⟨v4, rfl, ho4, hb4⟩
          have HO4 := Lib.hid ho4
          have HB4 : Hid (Below w3.heap.size w3 w4) := HBE.out.trans (hb4.mono HBE.out.size)
          obtain ⟨a4, c4, rfl, _⟩ := ownI_cells ho4
          clear ho4 hb4
          by_cases hE : E = 0
          · subst hE
            by_cases hD : D.length < 100
            · have j1 : ((D.length : Nat) : Int) < 100 := by omega
              have d1 := HCX.out w4 HB4.out
              have HA4 := Lib.hid (HAC.out w4 HB4.out rfl)
              obtain ⟨bb, hbb⟩ : ∃ bb, Lv.nearB S K x D = bb := ⟨_, rfl⟩
              rw [hbb] at HA4
              have HBG : Hid (∀ W, Below w4.heap.size w4 W → Calls Tryz.prog 9 #[.slice (some ⟨g2, 0, none⟩) S.length c2, .int .i64 (K : Int), .int .i64 (x : Int), .slice a4 D.length c4] W fun e w' => e = .returned (.bool bb) ∧ Below W.heap.size W w') := fun W hb => by
                have := nearR_any W g2 0 S.length c2 _ _ S D (HI3.out W (HB4.out.trans (hb.mono HB4.out.size))) (HO4.out.keep hb (Nat.le_refl _)) (by omega) hl1 (by omega) K x hK hx
                rw [hbb] at this
                exact this
              have hxor : (bb != bb) = false := by cases bb <;> rfl
              clear hbb
              go_wp2_with fail
              refine HA4.out.mono ?_
              rintro e w5 ⟨rfl, hb5⟩
              have HB5 : Hid (Below w3.heap.size w3 w5) := HB4.out.trans (hb5.mono HB4.out.size)
              have HBG5 := Lib.hid (HBG.out w5 hb5)
              clear hb5
              go_wp2_with fail
              refine HBG5.out.mono ?_
              rintro e w6 ⟨rfl, hb6⟩
              have HB6 : Hid (Below w3.heap.size w3 w6) := HB5.out.trans (hb6.mono HB5.out.size)
              clear hb6
              go_wp2_with fail
              go_roundg (len - (k + 1))
              case rel => exact ⟨k + 1, HB6.out, by omega, rfl, by go_num⟩
              case measure => omega
            · have j1 : ¬ ((D.length : Nat) : Int) < 100 := by omega
              go_wp2_with fail
              go_roundg (len - (k + 1))
              case rel => exact ⟨k + 1, HB4.out, by omega, rfl, by go_num⟩
              case measure => omega
          · have he : (E == 0) = false := by simpa using hE
            go_wp2_with fail
            go_roundg (len - (k + 1))
            case rel => exact ⟨k + 1, HB4.out, by omega, rfl, by go_num⟩
            case measure => omega
        · have i2 : ¬ (k : Int) < 20 := by omega
          clear hbel
          go_wp2_with fail
          refine HEND.out.mono ?_
          rintro e w4 ⟨rfl, hb4⟩
          have HB4 : Hid (Below w3.heap.size w3 w4) := HBE.out.trans (hb4.mono HBE.out.size)
          clear hb4
          go_wp2_with fail
          go_ret
          exact ⟨rfl, HB3.out.trans (HB4.out.mono HB3.out.size)⟩
      · have i1 : ¬ (k : Int) < (len : Int) := by omega
        clear hbel
        go_wp2_with fail
        refine HEND.out.mono ?_
        rintro e w4 ⟨rfl, hb4⟩
        have HB4 : Hid (Below w3.heap.size w3 w4) := HBE.out.trans (hb4.mono HBE.out.size)
        clear hb4
        go_wp2_with fail
        go_ret
        exact ⟨rfl, HB3.out.trans (HB4.out.mono HB3.out.size)⟩
  · have HP := Lib.hid (fuzzy_no w s hT (by omega) K x h0)
    have HR := Lib.hid (fun W => mayR_no W s (by omega) K x h0)
    generalize Lv.faE s.data.toList K x = E at *
    have he : (E != 0) = true := by simpa using h0
    have he2 : (E == 0) = false := by simpa using h0
    clear h0 hT ht hss
    go_enter Tryz.func3, Tryz.ntmps3
    go_wp2_with fail
    refine HP.out.mono ?_
    rintro e w1 ⟨rfl, hb1⟩
    have HB1 := Lib.hid hb1
    clear hb1
    go_wp2_with fail
    refine (HR.out w1).mono ?_
    rintro e w2 ⟨rfl, hb2⟩
    have HB2 : Hid (Below w.heap.size w w2) := HB1.out.trans (hb2.mono HB1.out.size)
    have HT2 : Hid (Tabs w2) := HT.out.below HB2.out
    clear hb2
    go_wp2_with fail
    refine (fuzzyAwake_any w2 HT2.out).mono ?_
    rintro e w3 ⟨rfl, hb3⟩
    have HB3 : Hid (Below w.heap.size w w3) := HB2.out.trans (hb3.mono HB2.out.size)
    have HT3 : Hid (Tabs w3) := HT.out.below HB3.out
    clear hb3
    go_wp2_with fail
    refine (fuzzyAwake_any w3 HT3.out).mono ?_
    rintro e w4 ⟨rfl, hb4⟩
    have HB4 : Hid (Below w.heap.size w w4) := HB3.out.trans (hb4.mono HB3.out.size)
    clear hb4
    go_wp2_with fail
    go_ret
    exact ⟨rfl, HB4.out⟩
end Go.Proofs.YthhfmcikfdagiaaGreatDoor

/-
  What the cards' frames share: arguments opened, their bulk, the witness's world, the library's listed tables.
-/
namespace Go.Proofs.YthhfmcikfdagiaaGreatDoor.frame5
open Go.ChangeShapes Go.WideShapes Go.ChangeAt Go.RowKit Go.Lib
open Go.ChangeMaps (open_string shut_string)

theorem own : ownKnob Tryz.prog.godebug = none := by kernel_rfl
theorem laidOut : laidOutB Tryz.prog = true := by kernel_rfl

theorem string_bulk {H : Type} (s : ByteArray) : Rows.uptoBulk (DataW.lit (H := H) (.string s.data.toList)) = s.size + 1 := by
  simp [Rows.uptoBulk]
theorem bound {H : Type} {l : List (DataW H)} (hk : Rows.uptoSmall H l = true) : Rows.uptoBulkAll l ≤ 1048576 := of_decide_eq_true hk

/-- A block's cells in the place of what it holds. -/
def cellsIn (cs : Array Value) : Obj → Obj
  | .cells _ t frozen => .cells cs t frozen
  | o => o
/-- The world of a witness: the listed variables hold what their text lays. -/
noncomputable def laidWorld (os : Os) : World :=
  { World.holding Tryz.prog os ⟨#[], #[], []⟩ with heap := ((World.holding Tryz.prog os ⟨#[], #[], []⟩).heap.modify 0 (cellsIn (Go.Pinned.utf8FirstZ.map fun (n : Nat) => Value.int .u8 (n : Int)).toArray)).modify 1 (cellsIn (#[128, 191, 160, 191, 128, 159, 144, 191, 128, 143, 0, 0, 0, 0, 0, 0, 0, 0, 0, 0, 0, 0, 0, 0, 0, 0, 0, 0, 0, 0, 0, 0].map fun (n : Int) => Value.int .u8 n)) }
/-- What the rows list. -/
def listed : List (String × DataW Unit) := [("unicode/utf8.acceptRanges", Rows.laid_unicode_utf8_acceptRanges), ("unicode/utf8.first", Rows.laid_unicode_utf8_first)]
theorem accept_eq : Rows.laid_unicode_utf8_acceptRanges (H := Unit) = acceptData := by kernel_rfl
theorem first_eq : Rows.laid_unicode_utf8_first = firstData := Pinned.utf8First_eq
theorem tabs_of {W : World} (hL : laidMet Tryz.prog listed W) : Tabs W := by
  unfold listed at hL
  rw [accept_eq, first_eq] at hL
  exact utf8Tabs_of_readsT (U8Types.of196 Tryz.lays196) ⟨by kernel_rfl, by kernel_rfl, by kernel_rfl, by kernel_rfl, by kernel_rfl, by kernel_rfl, by kernel_rfl⟩ (Lib.laidMet.reads hL (.tail _ (.head _))) (Lib.laidMet.reads hL (.head _))
end Go.Proofs.YthhfmcikfdagiaaGreatDoor.frame5

/-
  What the frames share: slices of states, of loose states, of texts that came in; their bulk.
-/
namespace Go.Proofs.YthhfmcikfdagiaaGreatDoor.frame
open Go.ChangeShapes Go.WideShapes Go.ChangeAt Go.RowKit
open Go.ChangeMaps (open_string shut_string)

instance : Inhabited Au.Arc := ⟨⟨0, 0, 0⟩⟩
instance : Inhabited Au.St := ⟨⟨false, []⟩⟩
instance : Inhabited Au.Lo := ⟨⟨false, [], []⟩⟩
theorem slice_elems {H : Type} (elems spare : List (DataW H)) : Rows.uptoBulkAll elems + 1 ≤ Rows.uptoBulk (.slice elems spare) := by
  simp only [Rows.uptoBulk]
  omega
theorem string_bulk {H : Type} (s : ByteArray) : Rows.uptoBulk (DataW.lit (H := H) (.string s.data.toList)) = s.size + 1 := by
  simp [Rows.uptoBulk]
section
variable {H : Type} {enc : TypeId × Value → H} {W : World}
theorem addr_of {x : Addr} {i : Nat} {v : Value} (hi : i = 0) (h : W.cell? (x.add i) = some v) : ∃ b o, x = ⟨b, o, none⟩ ∧ b < W.heap.size ∧ ∀ j, x.add j = ⟨b, o + j, none⟩ := by
  obtain ⟨b, off, spot⟩ := x
  have hspot : spot = none := by
    have h1 := World.cell?_spot h
    subst hi
    simpa [Addr.add] using h1
  subst hspot
  have hadd : ∀ j, (⟨b, off, none⟩ : Addr).add j = ⟨b, off + j, none⟩ := fun j => by
    unfold Addr.add
    split <;> simp_all
  rw [hadd] at h
  exact ⟨b, off, rfl, World.block_lt_of_cell? W _ h, hadd⟩
end
end Go.Proofs.YthhfmcikfdagiaaGreatDoor.frame

/-
  What the frames share: slices of texts that came in.
-/
namespace Go.Proofs.YthhfmcikfdagiaaGreatDoor.frame
open Go.ChangeShapes Go.WideShapes Go.ChangeAt Go.RowKit
open Go.ChangeMaps (open_string shut_string)
theorem strs_of {H : Type} {enc : TypeId × Value → H} {W : World} {t e : TypeId} {a : Option Addr} {len cap : Nat} {d : DataW H} {p : List MemPlace} (ht : Tryz.prog.underlying t = some (.slice e)) (he : Tryz.prog.underlying e = some .string) (hc : Tryz.prog.cellsOf e = 1)
    (h : DataW.Trod enc Tryz.prog W 0 (fun _ => true) true t (.slice a len cap) d p) : ∃ ss, TxtS W a len ss ∧ (∀ s ∈ ss, s.size ≤ Rows.uptoBulk d) ∧ len ≤ 9223372036854775807 := by
  obtain ⟨fuel, hf⟩ := h
  rcases open_strings ht he hc hf with ⟨hcs, hx⟩ | ⟨x, l, c, ss, hcs, _, hl, hm, hz, hx, hcell, hws⟩
  · simp [Value.cells] at hcs
    obtain ⟨rfl, rfl, rfl⟩ := hcs
    exact ⟨[], ⟨rfl, fun h => absurd h (by omega)⟩, fun s hs => (by cases hs), by omega⟩
  · simp [Value.cells] at hcs
    obtain ⟨rfl, rfl, rfl⟩ := hcs
    simp only [if_true] at hz
    have hd : d = .slice (strs (ss.take len)) (strs (ss.drop len)) := congrArg Prod.fst hx
    refine ⟨ss.take len, ⟨by rw [List.length_take]; omega, fun h0 => ?_⟩, fun s hs => ?_, by unfold maxLen at hm; omega⟩
    · obtain ⟨b, o, rfl, hb, hadd⟩ := addr_of rfl (hcell 0 (by omega))
      refine ⟨b, o, rfl, hb, fun i hi => ?_⟩
      have hi1 : i < len := by rw [List.length_take] at hi; omega
      have hi' : i < ss.length := by omega
      have := hcell i hi'
      rw [hadd] at this
      rw [this, List.getElem_take]
      simp [List.getD, hi']
    · have hmem : (DataW.lit (H := H) (.string s.data.toList)) ∈ strs (H := H) (ss.take len) := by
        unfold strs
        exact List.mem_map.2 ⟨_, hs, rfl⟩
      have h1 : Rows.uptoBulk (DataW.lit (H := H) (.string s.data.toList)) ≤ Rows.uptoBulkAll (strs (H := H) (ss.take len)) := by
        generalize strs (H := H) (ss.take len) = L at hmem
        induction L with
        | nil => cases hmem
        | cons y t ih =>
          simp only [Rows.uptoBulkAll]
          rcases List.mem_cons.1 hmem with rfl | hm
          · omega
          · have := ih hm; omega
      have h2 := slice_elems (strs (H := H) (ss.take len)) (strs (H := H) (ss.drop len))
      rw [string_bulk] at h1
      rw [hd]
      omega
end Go.Proofs.YthhfmcikfdagiaaGreatDoor.frame
