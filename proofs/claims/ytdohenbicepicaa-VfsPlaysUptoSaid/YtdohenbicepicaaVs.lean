/-
  What the given disk's SyncDir does.
-/
import Derived.Test.YtdohenbicepicaaVr
namespace Go.Proofs.Ytdohenbicepicaa
open Go.RowKit

theorem done_same (D : Vf.Dk) : (Vf.done D).2.names = D.names ∧ (Vf.done D).2.files = D.files ∧ (Vf.done D).2.last = D.last ∧ (Vf.done D).2.kept = D.kept := by
  unfold Vf.done
  split <;> exact ⟨rfl, rfl, rfl, rfl⟩
theorem one_lks (l : List Vf.Lk) : ∀ u ∈ lksV l, u.oneCell' = true := by
  intro u hu
  obtain ⟨x, _, hx⟩ := List.mem_flatMap.1 hu
  simp only [List.mem_cons, List.mem_nil_iff, or_false] at hx
  rcases hx with rfl | rfl <;> rfl
theorem OwnK.news {w : World} {B : Nat} {v : Value} {l : List Vf.Lk} (h : OwnK w B v l) : (v = .slice none 0 0 ∧ l = []) ∨ ∃ g cap, v = .slice (some ⟨g, 0, none⟩) l.length cap ∧ g < w.heap.size ∧ ∀ j u, (lksV l)[j]? = some u → w.cell? ((⟨g, 0, none⟩ : Addr).add j) = some u := by
  rcases h.2 with ⟨rfl, h0⟩ | ⟨g, cap, cur, rfl, hg, hh, hnc, hcp, hcs, htake⟩
  · exact .inl ⟨rfl, List.length_eq_zero_iff.1 h0⟩
  · have hown : w.ownsRow B 37 2 (.slice (some ⟨g, 0, none⟩) l.length cap) l.length (lksV l) := h
    exact .inr ⟨g, cap, rfl, (hown.lt g rfl).2, fun j u hj => hown.cells (g := g) rfl j u hj⟩
theorem lits_own (w : World) : (w.alloc (.cells #[] 37)).ownsRow w.heap.size 37 2 (.slice (some ⟨w.heap.size, 0, none⟩) 0 0) 0 [] := World.ownsRow_lit (e := 37) (size := 2) w #[] 0 (Nat.le_refl _) (by unfold maxLen; omega) rfl
/-- A list, copied into new memory. -/
theorem copied_own {w1 w3 : World} {v : Value} {l : List Vf.Lk} (h : w3.ownsRow w1.heap.size 37 2 v (0 + l.length) ([] ++ lksV l)) (hg : (w1.alloc (.cells #[] 37)).grownBy w3 (some w1.heap.size)) : OwnK w3 w1.heap.size v l ∧ Below w1.heap.size w1 w3 := by
  refine ⟨?_, ((Below.refl _ _).alloc (Nat.le_refl _) _).grown hg (by simp) (fun j hj => by simp at hj; omega)⟩
  unfold OwnK
  simpa using h

set_option maxRecDepth 100000 in
set_option maxHeartbeats 2000000 in
theorem syncDirR_any (w : World) (b : Nat) (vf vn vk : Value) (D : Vf.Dk) (h : RefA w b vf vn vk D) (hs : D.steps ≤ 4611686018427387904) (ha : -1 ≤ D.armed ∧ D.armed ≤ 9223372036854775807) (hn : D.names.length ≤ 1073741824) :
    Calls Try.prog 32 #[.pointer (some ⟨b, 0, none⟩)] w (OpPost w b vf vn vk (Vf.syncDir D)) := by
  obtain ⟨ii, hi, hz0, hz1, hz2⟩ := info_parts Try.infoL
  have hF := Lib.hid (firstR_any w b vf vn vk D true h)
  have hD := Lib.hid (doneR_any w b vf vn vk D h hs ha)
  have H := Lib.hid h
  obtain ⟨R, hR⟩ : ∃ R, R = Vf.syncDir D := ⟨_, rfl⟩
  rw [← hR]
  unfold Vf.syncDir at hR
  clear h
  by_cases h1 : Vf.first D true ≠ 0
  · rw [if_pos h1] at hR
    have e1 : (Vf.first D true == 0) = false := by simpa using h1
    subst hR
    clear h1
    generalize Vf.first D true = fe at *
    go_enter Try.func32, Try.ntmps32
    go_wp2_with (go_at_call 57; refine hF.out.mono ?_; rintro e1 w1 ⟨rfl, rfl⟩)
    go_ret
    exact OpPost.same H.out (kept_refl _ _)
  · rw [if_neg h1] at hR
    have h1' : Vf.first D true = 0 := by simpa using h1
    rw [h1'] at hF
    clear h1 h1'
    by_cases h3 : (Vf.done D).1 ≠ 0
    · rw [if_pos h3] at hR
      have e3 : ((Vf.done D).1 == 0) = false := by simpa using h3
      subst hR
      clear h3
      generalize Vf.done D = dd at *
      obtain ⟨de, D1⟩ := dd
      simp only at e3 hD
      go_enter Try.func32, Try.ntmps32
      go_wp2_with (first | (go_at_call 57; refine hF.out.mono ?_; rintro e1 w1 ⟨rfl, rfl⟩) | (go_at_call 58; refine hD.out.mono ?_; rintro e1 w1 ⟨rfl, hA1, hK1⟩; have HA1 := Lib.hid hA1; have HK1 := Lib.hid hK1; clear hA1 hK1))
      go_ret
      exact OpPost.same HA1.out HK1.out
    · rw [if_neg h3] at hR
      have h3' : (Vf.done D).1 = 0 := by simpa using h3
      rw [h3'] at hD
      obtain ⟨hnm, -, -, -⟩ := done_same D
      subst hR
      clear h3 h3'
      generalize (Vf.done D).2 = D1 at *
      rw [← hnm] at hn ⊢
      have hnm' := hnm
      clear hnm
      rcases (OwnK.news H.out.names) with ⟨rfl, hl0⟩ | ⟨g, cap, rfl, hg, hcl⟩
      · rw [← hnm'] at hl0
        have HL0 := Lib.hid hl0
        clear hl0 hnm'
        go_enter Try.func32, Try.ntmps32
        go_wp2_with (first | (go_at_call 57; refine hF.out.mono ?_; rintro e1 w1 ⟨rfl, rfl⟩) | (go_at_call 58; refine hD.out.mono ?_; rintro e1 w1 ⟨rfl, hA1, hK1⟩; have hrow1 := hA1.row; have hlt1 := hrow1.lt; have hbl : Below w1.heap.size w1 (w1.alloc (.cells #[] 37)) := (Below.refl _ _).alloc (Nat.le_refl _) _; have k1 : (w1.alloc (.cells #[] 37)).cell? ⟨b, 1, none⟩ = some (.slice none 0 0) := (hbl.cell (p := ⟨b, 1, none⟩) hlt1).trans (hrow1.cell 1); have k2 : (w1.alloc (.cells #[] 37)).cell? ⟨b, 2, none⟩ = some vk := (hbl.cell (p := ⟨b, 2, none⟩) hlt1).trans (hrow1.cell 2); have f2 : (w1.alloc (.cells #[] 37)).frozen? ⟨b, 2, none⟩ = false := (hbl.frozen (p := ⟨b, 2, none⟩) hlt1).trans (hrow1.frozen 2); have HBL := Lib.hid hbl; have HA1 := Lib.hid hA1; have HK1 := Lib.hid hK1; clear hA1 hK1 hrow1 hbl) | (at_builtin; refine wpList_append_own_none rfl _ _ 33 rfl w1.heap.size 37 ii 2 Try.underlying33 hi (.slice (some ⟨w1.heap.size, 0, none⟩) 0 0) 0 [] rfl (lits_own w1) rfl ?_))
        go_ret
        have ho : OwnK (w1.alloc (.cells #[] 37)) w1.heap.size (.slice (some ⟨w1.heap.size, 0, none⟩) 0 0) D1.names := by
          rw [HL0.out]
          exact lits_own w1
        have hA := HA1.out.kept_to HBL.out ho
        have hK := kept_step (i := 2) (v := .slice (some ⟨w1.heap.size, 0, none⟩) 0 0) HK1.out HBL.out
        have hw : (w1.alloc (.cells #[] 37)).setCell ⟨b, 2, none⟩ (.slice (some ⟨w1.heap.size, 0, none⟩) 0 0) = (w1.setCell ⟨b, 2, none⟩ (.slice (some ⟨w1.heap.size, 0, none⟩) 0 0)).alloc (.cells #[] 37) := World.setCell_alloc_past _ _ _ _ hlt1
        rw [hw] at hA hK
        refine ⟨rfl, vf, _, _, hA, hK.mono fun _ _ e => .inl e, fun k hk h => ?_⟩
        rcases h with h | h | h | h
        · exact .inl h
        · exact .inr (.inl h)
        · simp [Value.ownBlock] at h
        · have : w1.heap.size = k := by simpa [Value.ownBlock] using h
          have := HK1.out.size
          omega
      · obtain ⟨len, hlen⟩ : ∃ len, D1.names.length = len := ⟨_, rfl⟩
        rw [← hnm', hlen] at H hD ⊢
        rw [hlen] at hn
        have HLN := Lib.hid hlen
        clear hlen hcl
        go_enter Try.func32, Try.ntmps32
        go_wp2_with (first | (go_at_call 57; refine hF.out.mono ?_; rintro e1 w1 ⟨rfl, rfl⟩) | (go_at_call 58; refine hD.out.mono ?_; rintro e1 w1 ⟨rfl, hA1, hK1⟩; have hrow1 := hA1.row; have hlt1 := hrow1.lt; have hbl : Below w1.heap.size w1 (w1.alloc (.cells #[] 37)) := (Below.refl _ _).alloc (Nat.le_refl _) _; have k1 : (w1.alloc (.cells #[] 37)).cell? ⟨b, 1, none⟩ = some (.slice (some ⟨g, 0, none⟩) len cap) := (hbl.cell (p := ⟨b, 1, none⟩) hlt1).trans (hrow1.cell 1); have HNW : Hid (∀ j u, (lksV D1.names)[j]? = some u → (w1.alloc (.cells #[] 37)).cell? ((⟨g, 0, none⟩ : Addr).add j) = some u) := (fun j u hj => (hbl.cell (p := (⟨g, 0, none⟩ : Addr).add j) (by rw [Addr.add_lit]; exact (World.ownsRow.lt hA1.names g rfl).2)).trans (World.ownsRow.cells hA1.names (g := g) rfl j u hj)); have HBL := Lib.hid hbl; have HA1 := Lib.hid hA1; have HK1 := Lib.hid hK1; clear hA1 hK1 hrow1 hbl) | (at_builtin; refine wpList_append_own _ rfl _ _ 33 rfl w1.heap.size 37 ii _ 2 24 Try.underlying33 hi hz0 hz1 hz2 rfl (by decide) (.slice (some ⟨w1.heap.size, 0, none⟩) 0 0) 0 [] rfl (lits_own w1) ⟨g, 0, none⟩ len cap (lksV D1.names) rfl (by rw [lksV_length, HLN.out]) HNW.out (one_lks _) (by unfold maxLen; omega) (by omega) (by simp) ?_; intro v3 w3 hown3 hgrow3 _; have hc3 := copied_own (by rw [HLN.out]; exact hown3) hgrow3; obtain ⟨a3, q3, hv3⟩ := hc3.1.form; rw [HLN.out] at hv3; subst hv3; have k2 : w3.cell? ⟨b, 2, none⟩ = some vk := (hc3.2.cell (p := ⟨b, 2, none⟩) hlt1).trans (HA1.out.row.cell 2); have f2 : w3.frozen? ⟨b, 2, none⟩ = false := (hc3.2.frozen (p := ⟨b, 2, none⟩) hlt1).trans (HA1.out.row.frozen 2); have HC3 := Lib.hid hc3; clear hown3 hgrow3 hc3))
        have hA := HA1.out.kept_to HC3.out.2 HC3.out.1
        have hK := kept_step (i := 2) (v := .slice a3 len q3) HK1.out HC3.out.2
        have HSZ : Hid (∀ k, (Value.slice a3 len q3).ownBlock = some k → w.heap.size ≤ k) := fun k hk => Nat.le_trans HK1.out.size (World.ownsRow.lt HC3.out.1 k hk).1
        have HF := Lib.hid (And.intro hA hK)
        clear hA hK HC3
        go_wp2_with fail
        go_ret
        refine ⟨rfl, vf, _, _, HF.out.1, HF.out.2.mono fun _ _ e => .inl e, fun k hk h => ?_⟩
        rcases h with h | h | h | h
        · exact .inl h
        · exact .inr (.inl h)
        · exact .inr (.inr (.inl h))
        · have := HSZ.out k h
          omega
end Go.Proofs.Ytdohenbicepicaa
