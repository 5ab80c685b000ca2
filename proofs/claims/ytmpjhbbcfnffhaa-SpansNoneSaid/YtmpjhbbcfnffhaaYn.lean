/-
  Loose states of the call's own; slices.Clone of arcs and of numbers.
-/
import Derived.Test.YtmpjhbbcfnffhaaZo
import Derived.Test.YtmpjhbbcfnffhaaShelf
import Derived.Lib.SliceRun
namespace Go.Proofs.Ytmpjhbbcfnffhaa
open Go.RowKit

/-- The slice v is the call's own, from block B on, and holds these numbers. -/
def OwnZ (w : World) (B : Nat) (v : Value) (l : List Int) : Prop := w.ownsRow B 3 1 v l.length (l.map (Value.int .i64))
theorem OwnZ.kind {w : World} {B : Nat} {v : Value} {l : List Int} (h : OwnZ w B v l) : ∀ g, v.ownBlock = some g → B ≤ g ∧ g < w.heap.size ∧ ∃ c fz, w.heap[g]? = some (Obj.cells c 3 fz) := by
  intro g hv
  refine ⟨(World.ownsRow.lt h g hv).1, (World.ownsRow.lt h g hv).2, ?_⟩
  rcases h.2 with ⟨h1, _⟩ | ⟨g', cap, cur, h1, hg, hh, _⟩
  · rw [h1] at hv; cases hv
  · rw [h1] at hv
    obtain rfl : g' = g := by simpa [Value.ownBlock] using hv
    exact ⟨_, _, hh⟩
theorem OwnZ.nums {w : World} {B : Nat} {v : Value} {l : List Int} (h : OwnZ w B v l) (F : Nat → Prop) (hF : ∀ g, B ≤ g → F g) : NumS F w v l := by
  rcases h.2 with ⟨rfl, h0⟩ | ⟨g, cap, cur, rfl, hg, hh, hnc, hcp, hcs, htake⟩
  · exact ⟨none, 0, by rw [h0], by omega, by omega, fun h => by omega⟩
  · have hown : w.ownsRow B 3 1 (.slice (some ⟨g, 0, none⟩) l.length cap) l.length (l.map (Value.int .i64)) := h
    refine ⟨_, cap, rfl, hnc, by unfold maxLen at hcp; omega, fun h => ⟨g, 0, rfl, (hown.lt g rfl).2, hF g hg, fun j hj => ?_⟩⟩
    rw [Nat.zero_add, hown.cellAt j (by omega)]
    simp [hj]
theorem cloneZ_any (w : World) (v : Value) (l : List Int) (F : Nat → Prop) (h : NumS F w v l) (hl : l.length * 8 ≤ 140737488355328) :
    Calls Try.prog 25 #[v] w fun e w' => ∃ v', e = .returned v' ∧ OwnZ w' w.heap.size v' l ∧ Below w.heap.size w w' := by
  obtain ⟨a, cap, rfl, _, _, hc⟩ := h
  cases a with
  | none =>
    have h0 : l = [] := by
      rcases Nat.eq_zero_or_pos l.length with h0 | h0
      · exact List.length_eq_zero_iff.1 h0
      · obtain ⟨g, o, hh, _⟩ := hc h0
        cases hh
    subst h0
    refine (Try.slices_Clone_int_nil _ _ w).mono ?_
    rintro e w' ⟨rfl, rfl⟩
    exact ⟨_, rfl, World.ownsRow_nil _ _ _ _, Below.refl _ _⟩
  | some ad =>
    rcases Nat.eq_zero_or_pos l.length with h0 | h0
    · obtain rfl : l = [] := List.length_eq_zero_iff.1 h0
      refine (Try.slices_Clone_int_zero ad cap w).mono ?_
      rintro e w' ⟨v', rfl, h1, _, h2⟩
      exact ⟨v', rfl, h1, h2⟩
    · obtain ⟨g, o, hh, _, _, hcell⟩ := hc h0
      cases hh
      refine (Try.slices_Clone_int g o l.length cap l w (Nat.le_refl _) hl (fun j hj => by rw [hcell j hj]; simp [List.getD, hj])).mono ?_
      rintro e w' ⟨v', rfl, h1, _, h2⟩
      refine ⟨v', rfl, ?_, h2⟩
      rw [List.take_length] at h1
      exact h1
theorem arcs_flat (l : List Au.Arc) (j : Nat) (u : Value) (h : (arcsV l)[j]? = some u) : j / 3 < l.length ∧ u = (if j % 3 = 0 then .int .i64 (l.getD (j / 3) ⟨0, 0, 0⟩).lo else if j % 3 = 1 then .int .i64 (l.getD (j / 3) ⟨0, 0, 0⟩).hi else .int .i64 (l.getD (j / 3) ⟨0, 0, 0⟩).to) := by
  have hj : j < (arcsV l).length := (List.getElem?_eq_some_iff.1 h).1
  rw [arcsV_length] at hj
  have hk : j / 3 < l.length := by omega
  obtain ⟨a1, a2, a3⟩ := arcsV_at l (j / 3) hk
  have e : l.getD (j / 3) ⟨0, 0, 0⟩ = l[j / 3] := by simp [List.getD, hk]
  refine ⟨hk, ?_⟩
  rw [e]
  have hm : j % 3 = 0 ∨ j % 3 = 1 ∨ j % 3 = 2 := by omega
  rcases hm with hm | hm | hm
  · rw [show j = j / 3 * 3 by omega, a1] at h
    rw [if_pos hm]
    exact (Option.some.inj h).symm
  · rw [show j = j / 3 * 3 + 1 by omega, a2] at h
    rw [if_neg (by omega), if_pos hm]
    exact (Option.some.inj h).symm
  · rw [show j = j / 3 * 3 + 2 by omega, a3] at h
    rw [if_neg (by omega), if_neg (by omega)]
    exact (Option.some.inj h).symm
theorem arcs_news {w : World} {g o : Nat} {l : List Au.Arc} (hcell : ∀ j (_ : j < l.length), w.cell? ⟨g, o + j * 3, none⟩ = some (.int .i64 l[j].lo) ∧ w.cell? ⟨g, o + j * 3 + 1, none⟩ = some (.int .i64 l[j].hi) ∧ w.cell? ⟨g, o + j * 3 + 2, none⟩ = some (.int .i64 l[j].to)) :
    ∀ j u, (arcsV l)[j]? = some u → w.cell? ((⟨g, o, none⟩ : Addr).add j) = some u := by
  intro j u h
  obtain ⟨hk, hu⟩ := arcs_flat l j u h
  have e : l.getD (j / 3) ⟨0, 0, 0⟩ = l[j / 3] := by simp [List.getD, hk]
  rw [e] at hu
  obtain ⟨b1, b2, b3⟩ := hcell (j / 3) hk
  rw [Addr.add_lit]
  have hm : j % 3 = 0 ∨ j % 3 = 1 ∨ j % 3 = 2 := by omega
  rcases hm with hm | hm | hm
  · rw [if_pos hm] at hu
    rw [hu, ← b1]
    congr 2
    omega
  · rw [if_neg (by omega), if_pos hm] at hu
    rw [hu, ← b2]
    congr 2
    omega
  · rw [if_neg (by omega), if_neg (by omega)] at hu
    rw [hu, ← b3]
    congr 2
    omega
theorem arcs_one (l : List Au.Arc) : ∀ u ∈ arcsV l, u.oneCell' = true := by
  intro u hu
  obtain ⟨x, _, hx⟩ := List.mem_flatMap.1 hu
  simp only [List.mem_cons, List.not_mem_nil, or_false] at hx
  rcases hx with rfl | rfl | rfl <;> rfl

set_option maxHeartbeats 2000000 in
set_option maxRecDepth 100000 in
theorem cloneA_any (w : World) (v : Value) (l : List Au.Arc) (F : Nat → Prop) (h : ArcS F w v l) (hl : l.length * 24 ≤ 140737488355328) :
    Calls Try.prog 24 #[v] w fun e w' => ∃ v', e = .returned v' ∧ OwnA w' w.heap.size v' l ∧ Below w.heap.size w w' := by
  obtain ⟨a, cap, rfl, _, hcp, hc⟩ := h
  have q := fun (w : World) (a : Option Addr) (n c n' c' : Nat) => Lib.run_eql_slice_nil (P := Try.prog) w 37 42 a n c n' c' Try.underlying37
  cases a with
  | none =>
    have h0 : l = [] := by
      rcases Nat.eq_zero_or_pos l.length with h0 | h0
      · exact List.length_eq_zero_iff.1 h0
      · obtain ⟨g, o, hh, _⟩ := hc h0
        cases hh
    subst h0
    go_enter Try.func24, Try.ntmps24
    go_wp2_with fail
    go_ret
    exact ⟨_, rfl, World.ownsRow_nil _ _ _ _, Below.refl _ _⟩
  | some ad =>
    have hnews : ∀ j u, (arcsV l)[j]? = some u → w.cell? (ad.add j) = some u := by
      rcases Nat.eq_zero_or_pos l.length with h0 | h0
      · obtain rfl : l = [] := List.length_eq_zero_iff.1 h0
        intro j u hu
        simp [arcsV] at hu
      · obtain ⟨g, o, hh, _, _, hcell⟩ := hc h0
        cases hh
        exact arcs_news hcell
    have HNW := Lib.hid hnews
    clear hnews hc
    obtain ⟨ii, hi, hz0, hz1, hz2⟩ := info_parts Try.infoA
    obtain ⟨n, hn⟩ : ∃ n, n = l.length := ⟨_, rfl⟩
    have HN := Lib.hid hn
    rw [← hn] at hl ⊢
    clear hn
    go_enter Try.func24, Try.ntmps24
    go_wp2_with (at_builtin; refine wpList_append_own _ rfl _ _ 37 rfl w.heap.size 42 ii _ 3 24 Try.underlying37 hi hz0 hz1 hz2 rfl (by decide) _ _ _ rfl (World.ownsRow_made w #[] 0 (Nat.le_refl _) (Nat.zero_le _) rfl) ad n cap (arcsV l) rfl (by rw [arcsV_length, HN.out]) (fun j u hu => Lib.cell?_alloc_some _ (HNW.out j u hu)) (arcs_one l) (by unfold maxLen; omega) (by omega) (by simp) ?_; intro v' w1 hown hgrow hnil; have HOW := Lib.hid hown; have HGR := Lib.hid hgrow; clear hown hgrow hnil)
    go_wp2_with fail
    go_ret
    refine ⟨v', rfl, ?_, ((Below.refl _ w).alloc (Nat.le_refl _) _).grown HGR.out (by simp) (by intro k hk; have hk2 : some w.heap.size = some k := hk; injection hk2 with hk2; omega)⟩
    unfold OwnA
    rw [← HN.out]
    simpa using HOW.out
end Go.Proofs.Ytmpjhbbcfnffhaa
