/-
  What was sealed is opened as itself, and not otherwise: the walk of the statement.
-/
import Derived.Test.YtmflmckmamckfaaTurnsW
namespace Go.Proofs.Ytmflmckmamckfaa
open Go.RowKit

set_option maxRecDepth 100000 in
set_option maxHeartbeats 1000000 in
theorem sback_no (n o : Int) (s : ByteArray) (cut : Int) (m : ByteArray) (w : World) (hn : n < 0 ∨ 255 < n) :
    Calls Try.prog 5 #[.int .i64 n, .int .i64 o, .string s, .int .i64 cut, .string m] w fun e w' => e = .returned (.bool true) ∧ Below w.heap.size w w' := by
  have hS := Lib.hid (seal_no n s w (by omega))
  rcases hn with hn | hn
  all_goals
    go_enter Try.func5, Try.ntmps5
    have HB : Hid (Below w.heap.size w w) := Below.refl _ _
    go_wp2_with (first
      | (go_at_call 7; refine hS.out.mono ?_; rintro e1 w1 ⟨rfl, rfl⟩)
      | (go_at_call 9; refine (awake_any _).mono ?_; rintro e1 w2 ⟨rfl, hb⟩; have HB := Lib.hid (HB.out.trans (hb.mono HB.out.size)); clear hb))
    go_ret
    exact ⟨rfl, HB.out⟩

/-- What Open answers, in every world. -/
def Opens (n : Int) (b u : ByteArray) (e : Int) : Prop := ∀ w', Calls Try.prog 12 #[.int .i64 n, .string b] w' fun e' w'' => e' = .returned (.tuple #[.string u, .int .i64 e]) ∧ Below w'.heap.size w' w''

set_option maxRecDepth 100000 in
set_option maxHeartbeats 1000000 in
theorem sback_out (k : Nat) (o : Int) (s : ByteArray) (cut : Int) (m : ByteArray) (w : World) (hk : k ≤ 255) (b bm u t4 : ByteArray) (e2 e4 : Int)
    (hS : Hid (Calls Try.prog 7 #[.int .i64 k, .string s] w fun e' w' => e' = .returned (.tuple #[.string b, .int .i64 0]) ∧ Below w.heap.size w w'))
    (hz : b.size ≤ 140737488351249) (hmz : m.size ≤ 140737488351232)
    (H1 : Hid (Opens k b s 0)) (H2 : Hid (Opens o b u e2)) (ho : o = k ∨ ((o != (k : Int)) = true ∧ u = ⟨#[]⟩ ∧ (e2 == 0) = false))
    (H3 : cut < 0 ∨ (b.size : Int) ≤ cut)
    (hbm : b ++ m = bm) (H4 : Hid (Opens k bm t4 e4)) (hm : m.toList.isEmpty = true ∨ (m.toList.isEmpty = false ∧ e4 = 5)) :
    Calls Try.prog 5 #[.int .i64 k, .int .i64 o, .string s, .int .i64 cut, .string m] w fun e w' => e = .returned (.bool true) ∧ Below w.heap.size w w' := by
  rcases hm with hm | ⟨hm, rfl⟩
  all_goals rcases ho with rfl | ⟨ho, rfl, he2⟩
  all_goals rcases H3 with hc | hc
  all_goals
    have k1 : (k : Int) ≤ 255 := by omega
    have k2 : (0 : Int) ≤ (k : Int) := by omega
    go_enter Try.func5, Try.ntmps5
    go_wp2_with (first
      | (go_at_call 7; refine hS.out.mono ?_; rintro e1 w1 ⟨rfl, hb⟩; have HB := Lib.hid hb; clear hb)
      | (go_at_call 9; refine (awake_any _).mono ?_; rintro e1 w2 ⟨rfl, hb⟩; have HB := Lib.hid (HB.out.trans (hb.mono HB.out.size)); clear hb))
    refine (H1.out _).mono ?_; rintro e1 w3 ⟨rfl, hb⟩; have HB := Lib.hid (HB.out.trans (hb.mono HB.out.size)); clear hb
    go_wp2_with fail
    refine (H2.out _).mono ?_; rintro e1 w3 ⟨rfl, hb⟩; have HB := Lib.hid (HB.out.trans (hb.mono HB.out.size)); clear hb
    go_wp2_with fail
    refine (H4.out _).mono ?_; rintro e1 w3 ⟨rfl, hb⟩; have HB := Lib.hid (HB.out.trans (hb.mono HB.out.size)); clear hb
    go_wp2_with fail
    go_ret
    exact ⟨rfl, HB.out⟩

set_option maxRecDepth 100000 in
set_option maxHeartbeats 1000000 in
theorem sback_in (k : Nat) (o : Int) (s : ByteArray) (c : Nat) (m : ByteArray) (w : World) (hk : k ≤ 255) (b bm bc u t3 t4 : ByteArray) (e2 e4 : Int)
    (hS : Hid (Calls Try.prog 7 #[.int .i64 k, .string s] w fun e' w' => e' = .returned (.tuple #[.string b, .int .i64 0]) ∧ Below w.heap.size w w'))
    (hz : b.size ≤ 140737488351249) (hmz : m.size ≤ 140737488351232)
    (H1 : Hid (Opens k b s 0)) (H2 : Hid (Opens o b u e2)) (ho : o = k ∨ ((o != (k : Int)) = true ∧ u = ⟨#[]⟩ ∧ (e2 == 0) = false))
    (hc : c < b.size) (hbc : b.extract 0 c = bc) (H3 : Hid (Opens k bc t3 2))
    (hbm : b ++ m = bm) (H4 : Hid (Opens k bm t4 e4)) (hm : m.toList.isEmpty = true ∨ (m.toList.isEmpty = false ∧ e4 = 5)) :
    Calls Try.prog 5 #[.int .i64 k, .int .i64 o, .string s, .int .i64 c, .string m] w fun e w' => e = .returned (.bool true) ∧ Below w.heap.size w w' := by
  rcases hm with hm | ⟨hm, rfl⟩
  all_goals rcases ho with rfl | ⟨ho, rfl, he2⟩
  all_goals
    have k1 : (k : Int) ≤ 255 := by omega
    have k2 : (0 : Int) ≤ (k : Int) := by omega
    go_enter Try.func5, Try.ntmps5
    go_wp2_with (first
      | (go_at_call 7; refine hS.out.mono ?_; rintro e1 w1 ⟨rfl, hb⟩; have HB := Lib.hid hb; clear hb)
      | (go_at_call 9; refine (awake_any _).mono ?_; rintro e1 w2 ⟨rfl, hb⟩; have HB := Lib.hid (HB.out.trans (hb.mono HB.out.size)); clear hb))
    refine (H1.out _).mono ?_; rintro e1 w3 ⟨rfl, hb⟩; have HB := Lib.hid (HB.out.trans (hb.mono HB.out.size)); clear hb
    go_wp2_with fail
    refine (H2.out _).mono ?_; rintro e1 w3 ⟨rfl, hb⟩; have HB := Lib.hid (HB.out.trans (hb.mono HB.out.size)); clear hb
    go_wp2_with fail
    refine (H3.out _).mono ?_; rintro e1 w3 ⟨rfl, hb⟩; have HB := Lib.hid (HB.out.trans (hb.mono HB.out.size)); clear hb
    go_wp2_with fail
    refine (H4.out _).mono ?_; rintro e1 w3 ⟨rfl, hb⟩; have HB := Lib.hid (HB.out.trans (hb.mono HB.out.size)); clear hb
    go_wp2_with fail
    go_ret
    exact ⟨rfl, HB.out⟩

theorem sback_run (k : Nat) (o : Int) (s : ByteArray) (cut : Int) (m : ByteArray) (w : World) (hk : k ≤ 255) (b bm u t3 t4 : ByteArray) (e2 e4 : Int)
    (hS : Hid (Calls Try.prog 7 #[.int .i64 k, .string s] w fun e' w' => e' = .returned (.tuple #[.string b, .int .i64 0]) ∧ Below w.heap.size w w'))
    (hz : b.size ≤ 140737488351249) (hmz : m.size ≤ 140737488351232)
    (H1 : Hid (Opens k b s 0)) (H2 : Hid (Opens o b u e2)) (ho : o = k ∨ ((o != (k : Int)) = true ∧ u = ⟨#[]⟩ ∧ (e2 == 0) = false))
    (H3 : cut < 0 ∨ (b.size : Int) ≤ cut ∨ ∃ (c : Nat) (bc : ByteArray), cut = c ∧ c < b.size ∧ b.extract 0 c = bc ∧ Hid (Opens k bc t3 2))
    (hbm : b ++ m = bm) (H4 : Hid (Opens k bm t4 e4)) (hm : m.toList.isEmpty = true ∨ (m.toList.isEmpty = false ∧ e4 = 5)) :
    Calls Try.prog 5 #[.int .i64 k, .int .i64 o, .string s, .int .i64 cut, .string m] w fun e w' => e = .returned (.bool true) ∧ Below w.heap.size w w' := by
  rcases H3 with hc | hc | ⟨c, bc, rfl, hc, hbc, H3⟩
  · exact sback_out k o s cut m w hk b bm u t4 e2 e4 hS hz hmz H1 H2 ho (.inl hc) hbm H4 hm
  · exact sback_out k o s cut m w hk b bm u t4 e2 e4 hS hz hmz H1 H2 ho (.inr hc) hbm H4 hm
  · exact sback_in k o s c m w hk b bm bc u t3 t4 e2 e4 hS hz hmz H1 H2 ho hc hbc H3 hbm H4 hm

theorem opens_of (k : Nat) (hk : k ≤ 255) (b : ByteArray) (hz : b.size ≤ 9223372036854775807) (l t : List UInt8) (e : Int) (hl : b.data.toList = l) (h : openB k l = (t, e)) : Opens k b ⟨t.toArray⟩ e := fun w' =>
  open_any k hk b hz w' t e (by rw [hl]; exact h)

theorem sback_walk (n o : Int) (s : ByteArray) (cut : Int) (m : ByteArray) (w : World) (hs : s.size ≤ 140737488351232) (hms : m.size ≤ 140737488351232) :
    Calls Try.prog 5 #[.int .i64 n, .int .i64 o, .string s, .int .i64 cut, .string m] w fun e w' => e = .returned (.bool true) ∧ Below w.heap.size w w' := by
  by_cases hn : n < 0 ∨ 255 < n
  · exact sback_no n o s cut m w hn
  · obtain ⟨k, rfl⟩ := Int.eq_ofNat_of_zero_le (by omega : 0 ≤ n)
    have hk : k ≤ 255 := by omega
    have hS := Lib.hid (seal_any k hk s hs w)
    have hz := seal_size k s
    have hl : s.data.toList.length = s.size := by simp
    have hbl : (⟨(sealB k s.data.toList).toArray⟩ : ByteArray).data.toList = sealB k s.data.toList := by simp
    generalize (⟨(sealB k s.data.toList).toArray⟩ : ByteArray) = b at *
    have hbz : b.size = (sealB k s.data.toList).length := by rw [← hbl]; simp
    have hself : (⟨s.data.toList.toArray⟩ : ByteArray) = s := (mk_of rfl).symm
    have H1 : Opens k b s 0 := by
      have h := opens_of k hk b (by omega) _ _ _ hbl (Hd.open_seal k s.data.toList (by omega))
      rw [hself] at h
      exact h
    have H2 : ∃ u e2, Opens o b u e2 ∧ (o = k ∨ ((o != (k : Int)) = true ∧ u = ⟨#[]⟩ ∧ (e2 == 0) = false)) := by
      by_cases ho : o = k
      · exact ⟨s, 0, by rw [ho]; exact H1, .inl ho⟩
      · have ho' : (o != (k : Int)) = true := by simpa using ho
        by_cases hok : 0 ≤ o ∧ o ≤ 255
        · obtain ⟨j, rfl⟩ := Int.eq_ofNat_of_zero_le hok.1
          exact ⟨⟨#[]⟩, 3, opens_of j (by omega) b (by omega) _ _ _ hbl (Hd.open_other k j hk (by omega) (by omega) _), .inr ⟨ho', rfl, by decide⟩⟩
        · exact ⟨⟨#[]⟩, 1, fun w' => (open_no o b w' hok).mono fun e' w'' ⟨h1, h2⟩ => ⟨h1, h2 ▸ Below.refl _ _⟩, .inr ⟨ho', rfl, by decide⟩⟩
    obtain ⟨u, e2, H2, ho⟩ := H2
    have H3 : cut < 0 ∨ (b.size : Int) ≤ cut ∨ ∃ (c : Nat) (bc : ByteArray), cut = c ∧ c < b.size ∧ b.extract 0 c = bc ∧ Hid (Opens k bc ⟨#[]⟩ 2) := by
      by_cases h0 : cut < 0
      · exact .inl h0
      · by_cases h1 : (b.size : Int) ≤ cut
        · exact .inr (.inl h1)
        · obtain ⟨c, rfl⟩ := Int.eq_ofNat_of_zero_le (by omega : 0 ≤ cut)
          refine .inr (.inr ⟨c, _, rfl, by omega, rfl, ?_⟩)
          have he : (b.extract 0 c).data.toList = (sealB k s.data.toList).take c := by
            rw [Lib.extract_data, hbl]
            simp
          exact opens_of k hk _ (by rw [ByteArray.size_extract]; omega) _ _ _ he (Hd.open_cut k s.data.toList (by omega) c (by omega))
    have hma : (b ++ m).data.toList = sealB k s.data.toList ++ m.data.toList := by
      rw [ByteArray.data_append, Array.toList_append, hbl]
    have hmb : (b ++ m).size ≤ 9223372036854775807 := by rw [ByteArray.size_append]; omega
    by_cases hm : m.size = 0
    · exact sback_run k o s cut m w hk b _ u _ _ e2 _ hS (by omega) (by omega) H1 H2 ho H3 rfl (opens_of k hk _ hmb _ _ _ hma rfl) (.inl (empty_true m hm))
    · have hml : m.data.toList ≠ [] := by
        intro h
        have : m.data.toList.length = m.size := by simp
        rw [h] at this
        exact hm this.symm
      exact sback_run k o s cut m w hk b _ u _ _ e2 5 hS (by omega) (by omega) H1 H2 ho H3 rfl (opens_of k hk _ hmb _ _ _ hma (Hd.open_more k s.data.toList _ (by omega) hml)) (.inr ⟨empty_false m (by omega), rfl⟩)
end Go.Proofs.Ytmflmckmamckfaa
