/-
  What copyOf answers.
-/
import Derived.Test.YtmpjhbbcfnffhaaYo
import Derived.RegionTactic
import Derived.BigRegion
namespace Go.Proofs.Ytmpjhbbcfnffhaa
open Go.RowKit

set_option maxRecDepth 100000 in
set_option maxHeartbeats 2000000 in
theorem copyOf_any (F : Nat → Prop) (w : World) (v : Value) (L : List Au.Lo) (h : LoS F w v L) (hL : L.length ≤ 1000) (hs : ∀ s ∈ L, s.arcs.length * 24 ≤ 140737488355328 ∧ s.free.length * 8 ≤ 140737488355328) :
    Calls Try.prog 18 #[v] w fun e w' => ∃ v' vals, e = .returned v' ∧ LoO w' w.heap.size v' vals L ∧ Below w.heap.size w w' := by
  obtain ⟨a, cap, rfl, _, hcp, hc⟩ := h
  have HC := Lib.hid hc
  have HS := Lib.hid hs
  obtain ⟨n, hn⟩ : ∃ n, n = L.length := ⟨_, rfl⟩
  have HN := Lib.hid hn
  rw [← hn] at hL ⊢
  have hmk := makeLo n hL
  clear hc hs hn
  go_enter Try.func18, Try.ntmps18
  go_wp2_with fail
  have HR0 : Hid ((w.alloc (.cells (madeCells #[.bool false, .slice none 0 0, .slice none 0 0] (n * 3)) 40)).rowIs w.heap.size 40 (n * 3) (losCell [])) := madeLo w n
  have HB0 : Hid (Below w.heap.size w (w.alloc (.cells (madeCells #[.bool false, .slice none 0 0, .slice none 0 0] (n * 3)) 40))) := (Below.refl _ _).alloc (Nat.le_refl _) _
  obtain ⟨G, hG⟩ : ∃ G, G = w.heap.size := ⟨_, rfl⟩
  have HG : Hid (G = w.heap.size) := hG
  have HGB : Hid (w.heap.size ≤ G) := Nat.le_of_eq hG.symm
  rw [← hG] at HR0
  rw [show (Value.slice (some ⟨w.heap.size, 0, none⟩) n n) = Value.slice (some ⟨G, 0, none⟩) n n by rw [hG]]
  clear hmk hG
  generalize w.alloc (.cells (madeCells #[.bool false, .slice none 0 0, .slice none 0 0] (n * 3)) 40) = w1 at *
  go_loopg [11] n (fun g i wx => ∃ (k : Nat) (vals : List LoV), k ≤ n ∧ g = n - k ∧ i = .int .i64 k ∧ Hid (wx.rowIs G 40 (n * 3) (losCell vals)) ∧ Hid (LoEach wx w.heap.size vals (L.take k)) ∧ Hid (Below w.heap.size w wx))
  case atStart => exact ⟨0, [], Nat.zero_le _, rfl, rfl, HR0, LoEach.nil _ _, HB0⟩
  case round =>
    obtain ⟨k, vals, hk, rfl, rfl, hrow, heach, hbel⟩ := hrel
    by_cases hkn : k < n
    · have i1 : (k : Int) < (n : Int) := by omega
      have hkL : k < L.length := by rw [← HN.out]; exact hkn
      obtain ⟨gs, o, rfl, hgs, _, hcell⟩ := HC.out (by omega)
      obtain ⟨t1, ⟨va, t2, t3⟩, vf, t4, t5⟩ := hcell k hkL
      have hb := hbel.out
      have c1 : wr.cell? ⟨gs, o + k * 3, none⟩ = some (.bool L[k].fin) := (hb.cell (p := ⟨gs, o + k * 3, none⟩) hgs).trans t1
      have c2 : wr.cell? ⟨gs, o + k * 3 + 1, none⟩ = some va := (hb.cell (p := ⟨gs, o + k * 3 + 1, none⟩) hgs).trans t2
      have c3 : wr.cell? ⟨gs, o + k * 3 + 2, none⟩ = some vf := (hb.cell (p := ⟨gs, o + k * 3 + 2, none⟩) hgs).trans t4
      have HS1 := Lib.hid (HS.out L[k] (List.getElem_mem hkL))
      have hvl : vals.length = k := by
        have := heach.out.len
        rw [List.length_take] at this
        omega
      have HVL := Lib.hid hvl
      have HTK : Hid (L.take (k + 1) = L.take k ++ [L[k]]) := List.take_succ_eq_append_getElem hkL
      have HA3 : Hid (ArcS F wr va L[k].arcs) := t3.keep hb.size fun g _ hg => hb.block g hg
      have HF3 : Hid (NumS F wr vf L[k].free) := t5.keep hb.size fun g _ hg => hb.block g hg
      clear hcell t1 t2 t3 t4 t5 hvl hb
      generalize L[k] = s at *
      obtain ⟨fin, arcs, free⟩ := s
      dsimp only at *
      obtain ⟨aa, ca, hva⟩ : ∃ aa ca, va = .slice aa arcs.length ca := by
        obtain ⟨aa, ca, h1, _⟩ := HA3.out
        exact ⟨aa, ca, h1⟩
      obtain ⟨af, cf, hvf⟩ : ∃ af cf, vf = .slice af free.length cf := by
        obtain ⟨af, cf, h1, _⟩ := HF3.out
        exact ⟨af, cf, h1⟩
      subst hva hvf
      obtain ⟨na, hna⟩ : ∃ na, na = arcs.length := ⟨_, rfl⟩
      obtain ⟨nf, hnf⟩ : ∃ nf, nf = free.length := ⟨_, rfl⟩
      rw [← hna] at c2 HA3
      rw [← hnf] at c3 HF3
      clear hna hnf
      have HAL : Hid (∀ o, LoEach (wr.alloc o) w.heap.size vals (L.take k)) := fun o => heach.out.below ((Below.refl _ _).alloc (Nat.le_refl _) _)
      have HNW : Hid (wr.heap.size < (wr.alloc (.cells #[.bool fin, .slice aa na ca, .slice af nf cf] 40)).heap.size) := by show _ < _; simp
      have HBK : Hid ((wr.alloc (.cells #[.bool fin, .slice aa na ca, .slice af nf cf] 40)).heap[wr.heap.size]? = some (.cells #[.bool fin, .slice aa na ca, .slice af nf cf] 40 (0, 0))) := Go.Deep.blk_alloc_new _ _
      have HBL : Hid (Below w.heap.size w (wr.alloc (.cells #[.bool fin, .slice aa na ca, .slice af nf cf] 40))) := hbel.out.alloc hbel.out.size _
      have HRW : Hid ((wr.alloc (.cells #[.bool fin, .slice aa na ca, .slice af nf cf] 40)).rowIs G 40 (n * 3) (losCell vals)) := hrow.out.alloc _
      have HE5 := Lib.hid (HAL.out (.cells #[.bool fin, .slice aa na ca, .slice af nf cf] 40))
      have HA5 : Hid (ArcS F (wr.alloc (.cells #[.bool fin, .slice aa na ca, .slice af nf cf] 40)) (.slice aa na ca) arcs) := HA3.out.keep (by simp) fun g _ hg => Go.Deep.blk_alloc_lt _ _ _ hg
      have HF5 : Hid (NumS F (wr.alloc (.cells #[.bool fin, .slice aa na ca, .slice af nf cf] 40)) (.slice af nf cf) free) := HF3.out.keep (by simp) fun g _ hg => Go.Deep.blk_alloc_lt _ _ _ hg
      have HGL : Hid (G < wr.heap.size) := hrow.out.lt
      go_wp2_with fail
      clear c1 c2 c3 HAL HA3 HF3
      obtain ⟨b5, hb5⟩ : ∃ b, b = wr.heap.size := ⟨_, rfl⟩
      rw [← hb5] at HNW HBK HGL ⊢
      clear hb5
      generalize wr.alloc (.cells #[.bool fin, .slice aa na ca, .slice af nf cf] 40) = w5 at *
      have HCA : Hid (∀ W, Below w5.heap.size w5 W → Calls Try.prog 24 #[.slice aa na ca] W fun e w' => ∃ a6 m6 c6, e = .returned (.slice a6 m6 c6) ∧ OwnA w' W.heap.size (.slice a6 m6 c6) arcs ∧ Below W.heap.size W w') := fun W hb => (cloneA_any W _ arcs F (HA5.out.keep hb.size fun g _ hg => hb.block g hg) HS1.out.1).mono fun e w' ⟨v', h1, h2, h3⟩ => by
        obtain ⟨a6, c6, h4, _⟩ := h2.opened
        subst h4
        exact ⟨a6, _, c6, h1, h2, h3⟩
      have HCZ : Hid (∀ W, Below w5.heap.size w5 W → Calls Try.prog 25 #[.slice af nf cf] W fun e w' => ∃ a7 m7 c7, e = .returned (.slice a7 m7 c7) ∧ OwnZ w' W.heap.size (.slice a7 m7 c7) free ∧ Below W.heap.size W w') := fun W hb => (cloneZ_any W _ free F (HF5.out.keep hb.size fun g _ hg => hb.block g hg) HS1.out.2).mono fun e w' ⟨v', h1, h2, h3⟩ => by
        obtain ⟨a7, c7, h4, _⟩ := h2.nums (fun _ => True) fun _ _ => trivial
        subst h4
        exact ⟨a7, _, c7, h1, h2, h3⟩
      have hK0 : ∀ W : World, W.heap[b5]? = w5.heap[b5]? → W.cell? ⟨b5, 0, none⟩ = some (.bool fin) ∧ W.cell? ⟨b5, 1, none⟩ = some (.slice aa na ca) ∧ W.cell? ⟨b5, 2, none⟩ = some (.slice af nf cf) := fun W e => by
        rw [HBK.out] at e
        exact ⟨by simp [World.cell?, e], by simp [World.cell?, e], by simp [World.cell?, e]⟩
      have HK : Hid (∀ W, Below w5.heap.size w5 W → W.cell? ⟨b5, 0, none⟩ = some (.bool fin) ∧ W.cell? ⟨b5, 1, none⟩ = some (.slice aa na ca) ∧ W.cell? ⟨b5, 2, none⟩ = some (.slice af nf cf)) := fun W hb => hK0 W (hb.block b5 HNW.out)
      have HKS : Hid (∀ W u1 u2 u3, Below w5.heap.size w5 W → (((W.setCell ⟨G, k * 3, none⟩ u1).setCell ⟨G, k * 3 + 1, none⟩ u2).setCell ⟨G, k * 3 + 2, none⟩ u3).cell? ⟨b5, 0, none⟩ = some (.bool fin) ∧ (((W.setCell ⟨G, k * 3, none⟩ u1).setCell ⟨G, k * 3 + 1, none⟩ u2).setCell ⟨G, k * 3 + 2, none⟩ u3).cell? ⟨b5, 1, none⟩ = some (.slice aa na ca) ∧ (((W.setCell ⟨G, k * 3, none⟩ u1).setCell ⟨G, k * 3 + 1, none⟩ u2).setCell ⟨G, k * 3 + 2, none⟩ u3).cell? ⟨b5, 2, none⟩ = some (.slice af nf cf)) := fun W u1 u2 u3 hb => hK0 _ (by
        have hne : b5 ≠ G := by have := HGL.out; omega
        rw [Go.Deep.blk_setCell_other _ _ _ _ hne, Go.Deep.blk_setCell_other _ _ _ _ hne, Go.Deep.blk_setCell_other _ _ _ _ hne]
        exact hb.block b5 HNW.out)
      have HRX : Hid (∀ W, Below w5.heap.size w5 W → W.rowIs G 40 (n * 3) (losCell vals)) := fun W hb => HRW.out.of_block (hb.block G HRW.out.lt)
      have hq0 : Below w5.heap.size w5 w5.drew := (Below.refl _ _).drew
      clear hK0
      go_region_held3 (fun W => W.cell? ⟨b5, 0, none⟩ = some (.bool fin) ∧ W.cell? ⟨b5, 1, none⟩ = some (.slice aa na ca) ∧ W.cell? ⟨b5, 2, none⟩ = some (.slice af nf cf)) (first | exact HK.out _ (by assumption) | exact HKS.out _ _ _ _ (by assumption)) (first | (go_at_call 24; refine (HCA.out _ (by assumption)).mono ?_; rintro e w6 ⟨a6, m6, c6, rfl, ho6, hb6⟩; have HO6 := Lib.hid ho6; have HB6 := Lib.hid hb6; have hq6 : Below w5.heap.size w5 w6 := hq0.trans hb6; clear ho6 hb6) | (go_at_call 25; refine (HCZ.out _ (by assumption)).mono ?_; rintro e w7 ⟨a7, m7, c7, rfl, ho7, hb7⟩; have HO7 := Lib.hid ho7; have HB7 := Lib.hid hb7; have hq7 : Below w5.heap.size w5 w7 := hq6.trans (hb7.mono hq6.size); have HR7 := Lib.hid (HRX.out w7 hq7); have y1 := HR7.out.cell (i := k * 3) (by omega); have y2 := HR7.out.cell (i := k * 3 + 1) (by omega); have y3 := HR7.out.cell (i := k * 3 + 2) (by omega); have z1 := HR7.out.frozen (k * 3); have z2 := HR7.out.frozen (k * 3 + 1); have z3 := HR7.out.frozen (k * 3 + 2); clear ho7 hb7))
      clear y1 y2 y3 z1 z2 z3
      have HA7 : Hid (OwnA w7 w5.heap.size (.slice a6 m6 c6) arcs) := by
        have h6 : OwnA w6 w5.heap.size (.slice a6 m6 c6) arcs := HO6.out
        exact h6.keep fun g hg => HB7.out.block g (h6.lt g hg).2
      have HZ7 : Hid (OwnZ w7 w5.heap.size (.slice a7 m7 c7) free) := ownsRow_base HO7.out (by have := hq6.size; exact this)
      have HE7 : Hid (LoEach w7 w.heap.size (vals ++ [(fin, .slice a6 m6 c6, .slice a7 m7 c7)]) (L.take (k + 1))) := by
        show LoEach _ _ _ _
        rw [HTK.out]
        exact HE5.out.snoc hq7 HBL.out.size (s := ⟨fin, arcs, free⟩) HA7.out HZ7.out
      have far : ∀ g, g ≠ G → (((w7.setCell ⟨G, k * 3, none⟩ (.bool fin)).setCell ⟨G, k * 3 + 1, none⟩ (.slice a6 m6 c6)).setCell ⟨G, k * 3 + 2, none⟩ (.slice a7 m7 c7)).heap[g]? = w7.heap[g]? := fun g hg => by
        rw [Go.Deep.blk_setCell_other _ _ _ _ hg, Go.Deep.blk_setCell_other _ _ _ _ hg, Go.Deep.blk_setCell_other _ _ _ _ hg]
      have R8 : Hid ((((w7.setCell ⟨G, k * 3, none⟩ (.bool fin)).setCell ⟨G, k * 3 + 1, none⟩ (.slice a6 m6 c6)).setCell ⟨G, k * 3 + 2, none⟩ (.slice a7 m7 c7)).rowIs G 40 (n * 3) (losCell (vals ++ [(fin, .slice a6 m6 c6, .slice a7 m7 c7)]))) :=
        (((HR7.out.set (k * 3) (.bool fin)).set (k * 3 + 1) (.slice a6 m6 c6)).set (k * 3 + 2) (.slice a7 m7 c7)).congr fun j _ => by
          have := losCell_snoc vals (fin, .slice a6 m6 c6, .slice a7 m7 c7) j
          rw [HVL.out] at this
          exact this
      have E8 : Hid (LoEach (((w7.setCell ⟨G, k * 3, none⟩ (.bool fin)).setCell ⟨G, k * 3 + 1, none⟩ (.slice a6 m6 c6)).setCell ⟨G, k * 3 + 2, none⟩ (.slice a7 m7 c7)) w.heap.size (vals ++ [(fin, .slice a6 m6 c6, .slice a7 m7 c7)]) (L.take (k + 1))) :=
        HE7.out.keep fun g c t fz hg ht _ => far g (by
          rintro rfl
          obtain ⟨c', hc', _⟩ := id HR7.out
          rw [hg] at hc'
          injection hc' with hc'
          injection hc' with _ h2
          rcases ht with rfl | rfl <;> exact absurd h2 (by decide))
      have B8 : Hid (Below w.heap.size w (((w7.setCell ⟨G, k * 3, none⟩ (.bool fin)).setCell ⟨G, k * 3 + 1, none⟩ (.slice a6 m6 c6)).setCell ⟨G, k * 3 + 2, none⟩ (.slice a7 m7 c7))) :=
        (((HBL.out.trans (hq7.mono HBL.out.size)).setCell HGB.out _).setCell HGB.out _).setCell HGB.out _
      clear far hq0 hq6 hq7
      generalize (((w7.setCell ⟨G, k * 3, none⟩ (.bool fin)).setCell ⟨G, k * 3 + 1, none⟩ (.slice a6 m6 c6)).setCell ⟨G, k * 3 + 2, none⟩ (.slice a7 m7 c7)) = w8 at *
      go_wp2_with fail
      go_roundg (n - (k + 1))
      case rel => exact ⟨k + 1, _, by omega, rfl, by go_num, R8, E8, B8⟩
      case measure => omega
    · obtain rfl : k = n := by omega
      have e : L.take k = L := List.take_of_length_le (by rw [← HN.out]; exact Nat.le_refl _)
      rw [e] at heach
      clear e
      go_wp2_with fail
      go_ret
      refine ⟨_, vals, rfl, ⟨?_, heach.out⟩, hbel.out⟩
      rw [← HN.out]
      exact own_of_rowIs hrow.out (by rw [heach.out.len, HN.out]) HGB.out hL
end Go.Proofs.Ytmpjhbbcfnffhaa
