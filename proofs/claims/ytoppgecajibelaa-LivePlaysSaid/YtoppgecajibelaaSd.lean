/-
  The document's sets in memory: Copy.
-/
import Derived.Test.YtoppgecajibelaaSc
namespace Go.Proofs.Ytoppgecajibelaa
open Go.RowKit
/-- What Copy answers. -/
def CopyR (w : World) (n : Nat) (G : List Nat) (e : Ending) (w' : World) : Prop :=
  Below w.heap.size w w' ∧ ∃ p v, e = .returned (.pointer (some ⟨p, 0, none⟩)) ∧ RefS w' w.heap.size p n G v
set_option maxRecDepth 100000 in
set_option maxHeartbeats 4000000 in
theorem copyS_any (w : World) (B p n : Nat) (G : List Nat) (v : Value) (h : RefS w B p n G v) :
    Calls Try.prog 11 #[.pointer (some ⟨p, 0, none⟩)] w (CopyR w n G) := by
  have H := Lib.hid h
  obtain ⟨a, cap, rfl⟩ := h.own.form
  obtain ⟨m, hm⟩ : ∃ m, m = (G.map Int.ofNat).length := ⟨_, rfl⟩
  have hml : m ≤ 1048576 := by rw [hm, List.length_map]; have := h.ok.len; have := h.lim; omega
  have HM := Lib.hid hm
  rw [← hm] at H
  have hE1 : Below w.heap.size w (w.alloc (.cells #[] 3)).drew := ((Below.refl _ _).alloc (Nat.le_refl _) _).drew
  obtain ⟨c0, c1, _⟩ := set_box (w := w.drew) H.out.box
  obtain ⟨e0, e1, _⟩ := set_box (w := (w.alloc (.cells #[] 3)).drew) ((hE1.block _ (blk_lt H.out.box)).trans H.out.box)
  have HE1 : Hid (OwnI (w.alloc (.cells #[] 3)).drew w.heap.size (.slice (some ⟨w.heap.size, 0, none⟩) 0 0) []) := World.ownsRow_made w #[] 0 (Nat.le_refl _) (Nat.zero_le _) rfl
  have HE2 : Hid (IntF (fun g => B ≤ g) (w.alloc (.cells #[] 3)).drew (.slice a m cap) (G.map Int.ofNat)) := H.out.own.intF.below hE1
  have HE3 : Hid (([] : List Int).length + (G.map Int.ofNat).length ≤ 17179869184) := by show _ + _ ≤ _; rw [← HM.out]; simp; omega
  have HE4 := Lib.hid hE1
  clear hE1 h hm
  go_enter Try.func11, Try.ntmps11
  go_wp2_with fail
  go_region_law (first | (refine step_appendI (F := fun g => B ≤ g) _ rfl _ _ rfl rfl w.heap.size HE4.out.size (.slice (some ⟨w.heap.size, 0, none⟩) 0 0) (.slice a m cap) [] (G.map Int.ofNat) (by rfl) (by rfl) HE1.out HE2.out HE3.out ?_; intro v5 w5 hO5 hB5 hF5; rw [List.nil_append] at hO5; have HO5 := Lib.hid hO5; have HC5 := Lib.hid (HE4.out.trans hB5); have hbx5 := (HC5.out.block p (blk_lt H.out.box)).trans H.out.box; obtain ⟨d0, d1, _⟩ := set_box hbx5; obtain ⟨a5, q5, hv5⟩ := hO5.form; rw [← HM.out] at hv5; subst hv5; clear hO5 hB5 hF5 hbx5))
  all_goals
    go_wp2_with fail
    go_ret
    exact ⟨HC5.out.trans (((Below.refl _ _).alloc (Nat.le_refl _) _).mono HC5.out.size), w5.heap.size, _, rfl, HC5.out.size, Go.Deep.blk_alloc_new _ _, HO5.out.alloc _, H.out.ok, H.out.lim⟩
end Go.Proofs.Ytoppgecajibelaa
