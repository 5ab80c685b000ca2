/-
  Lead between states that are not there; SpansNone.
-/
import Derived.Test.YtmpjhbbcfnffhaaYp
import Derived.Test.YtmpjhbbcfnffhaaYk
namespace Go.Proofs.Ytmpjhbbcfnffhaa
open Go.RowKit

theorem LoO.los {w : World} {B : Nat} {v : Value} {vals : List LoV} {L : List Au.Lo} (h : LoO w B v vals L) (F : Nat → Prop) (hF : ∀ g, B ≤ g → F g) : LoS F w v L := by
  have hl := h.each.len
  rcases h.own.2 with ⟨h1, h0⟩ | ⟨g, cap, cur, h1, hg, hh, hnc, hcp, hcs, htake⟩
  · exact ⟨none, 0, by rw [h1, h0], by omega, by omega, fun h => by omega⟩
  · subst h1
    have hown : w.ownsRow B 40 3 (.slice (some ⟨g, 0, none⟩) L.length cap) L.length (losV vals) := h.own
    refine ⟨_, cap, rfl, hnc, by unfold maxLen at hcp; omega, fun _ => ⟨g, 0, rfl, (hown.lt g rfl).2, hF g hg, fun j hj => ?_⟩⟩
    obtain ⟨a1, a2, a3⟩ := losV_at vals j (by omega)
    obtain ⟨e1, e2, e3⟩ := h.each.each j (by omega) hj
    rw [Nat.zero_add]
    refine ⟨?_, ⟨vals[j].2.1, ?_, e2.arcs F hF⟩, vals[j].2.2, ?_, e3.nums F hF⟩
    · rw [hown.cellAt _ (by omega), a1, e1]
    · rw [hown.cellAt _ (by omega), a2]
    · rw [hown.cellAt _ (by omega), a3]
/-- Is a number the place of one of n. -/
def inB (i : Int) (n : Nat) : Bool := decide (0 ≤ i ∧ i < n)
set_option maxHeartbeats 1000000 in
theorem isPlace_any (i : Int) (n : Nat) (w : World) : Calls Try.prog 19 #[.int .i64 i, .int .i64 (n : Int)] w fun e w' => e = .returned (.bool (inB i n)) ∧ w = w' := by
  by_cases h1 : 0 ≤ i
  · by_cases h2 : i < n
    · have hd : Hid (inB i n = true) := decide_eq_true ⟨h1, h2⟩
      go_enter Try.func19, Try.ntmps19
      go_wp2_with fail
      go_ret
      exact ⟨ret_bool hd.out.symm, rfl⟩
    · have hd : Hid (inB i n = false) := decide_eq_false fun h => h2 h.2
      go_enter Try.func19, Try.ntmps19
      go_wp2_with fail
      go_ret
      exact ⟨ret_bool hd.out.symm, rfl⟩
  · have hd : Hid (inB i n = false) := decide_eq_false fun h => h1 h.1
    go_enter Try.func19, Try.ntmps19
    go_wp2_with fail
    go_ret
    exact ⟨ret_bool hd.out.symm, rfl⟩
set_option maxHeartbeats 1000000 in
set_option maxRecDepth 100000 in
theorem leadNone_any (F : Nat → Prop) (w : World) (v : Value) (L : List Au.Lo) (h : LoS F w v L) (hL : L.length ≤ 1000) (hs : ∀ s ∈ L, s.arcs.length * 24 ≤ 140737488355328 ∧ s.free.length * 8 ≤ 140737488355328) (from_ to_ lo hi : Int)
    (hno : ¬ ((0 ≤ from_ ∧ from_ < L.length) ∧ (0 ≤ to_ ∧ to_ < L.length))) :
    Calls Try.prog 13 #[v, .int .i64 from_, .int .i64 to_, .int .i64 lo, .int .i64 hi] w fun e w' => ∃ v' vals, e = .returned v' ∧ LoO w' w.heap.size v' vals L ∧ Below w.heap.size w w' := by
  have HC := Lib.hid (copyOf_any F w v L h hL hs)
  obtain ⟨a, cap, rfl, _, hcp, _⟩ := h
  have H1 := Lib.hid (fun w => isPlace_any from_ L.length w)
  have H2 := Lib.hid (fun w => isPlace_any to_ L.length w)
  have HNO : Hid (inB from_ L.length = true → inB to_ L.length = true → False) := fun h1 h2 => hno ⟨of_decide_eq_true h1, of_decide_eq_true h2⟩
  clear hno hs
  generalize inB from_ L.length = b1 at *
  generalize inB to_ L.length = b2 at *
  obtain ⟨n, hn⟩ : ∃ n, n = L.length := ⟨_, rfl⟩
  have HN := Lib.hid hn
  rw [← hn] at hL HC H1 H2 ⊢
  clear hn
  go_enter Try.func13, Try.ntmps13
  go_wp2_with fail
  refine HC.out.mono ?_
  rintro e w1 ⟨v', vals, rfl, hO, hb⟩
  have HO := Lib.hid hO
  have HB := Lib.hid hb
  clear hO hb
  go_wp2_with fail
  refine (H1.out w1).mono ?_
  rintro e w2 ⟨rfl, rfl⟩
  cases b1
  · go_wp2_with fail
    go_ret
    exact ⟨_, vals, rfl, HO.out, HB.out⟩
  · go_wp2_with fail
    refine (H2.out w1).mono ?_
    rintro e w2 ⟨rfl, rfl⟩
    cases b2
    · go_wp2_with fail
      go_ret
      exact ⟨_, vals, rfl, HO.out, HB.out⟩
    · exact (HNO.out trivial rfl).elim
end Go.Proofs.Ytmpjhbbcfnffhaa
