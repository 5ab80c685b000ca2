/-
  SpansFew.
-/
import Derived.Test.YtmpjhbbcfnffhaaYl
namespace Go.Proofs.Ytmpjhbbcfnffhaa
open Go.RowKit

/-- Between two rows: those of a from k on, all of b, and the lists of rows are as they were. -/
structure Few (w3 wx : World) (gsa gsb : List Nat) (L : List (List (Int × Int))) (k : Nat) : Prop where
  a : ∀ i, k ≤ i → ∀ (h : i < gsa.length) (h2 : i < L.length), RowG wx gsa[i] L[i]
  b : ∀ i (h : i < gsb.length) (h2 : i < L.length), RowG wx gsb[i] L[i]
  o : ∀ (g : Nat) (c : Array Value) (fz : Nat × Nat), w3.heap[g]? = some (Obj.cells c 24 fz) → wx.heap[g]? = w3.heap[g]?
/-- Within one: of the row at hand what is from the range j on. -/
structure FewIn (w3 wx : World) (gsa gsb : List Nat) (L : List (List (Int × Int))) (k j : Nat) : Prop where
  out : Few w3 wx gsa gsb L (k + 1)
  row : ∀ (h : k < gsa.length) (h2 : k < L.length), ∃ f, wx.rowIs gsa[k] 26 (L[k].length * 2) f ∧ ∀ c, j * 2 ≤ c → f c = .int .i64 (Sp.cellAt L[k] c)
theorem Few.open {w3 wx : World} {gsa gsb : List Nat} {L : List (List (Int × Int))} {k : Nat} (h : Few w3 wx gsa gsb L k) : FewIn w3 wx gsa gsb L k 0 :=
  ⟨⟨fun i hi a b => h.a i (by omega) a b, h.b, h.o⟩, fun a b => ⟨_, h.a k (Nat.le_refl _) a b, fun _ _ => rfl⟩⟩
theorem Few.drew {w3 wx : World} {gsa gsb : List Nat} {L : List (List (Int × Int))} {k : Nat} (h : Few w3 wx gsa gsb L k) (n : Nat) : Few w3 (wx.drewN n) gsa gsb L k :=
  ⟨fun i hi a b => (h.a i hi a b).of_block rfl, fun i a b => (h.b i a b).of_block rfl, fun g c fz hg => (show (wx.drewN n).heap[g]? = wx.heap[g]? from rfl).trans (h.o g c fz hg)⟩
theorem FewIn.drew {w3 wx : World} {gsa gsb : List Nat} {L : List (List (Int × Int))} {k j : Nat} (h : FewIn w3 wx gsa gsb L k j) (n : Nat) : FewIn w3 (wx.drewN n) gsa gsb L k j :=
  ⟨h.out.drew n, fun a b => by obtain ⟨f, h1, h2⟩ := h.row a b; exact ⟨f, h1.of_block rfl, h2⟩⟩
theorem FewIn.cells {w3 wx : World} {gsa gsb : List Nat} {L : List (List (Int × Int))} {k j : Nat} (h : FewIn w3 wx gsa gsb L k j) (a : k < gsa.length) (b : k < L.length) (hj : j < L[k].length) :
    wx.cell? ⟨gsa[k], j * 2, none⟩ = some (.int .i64 L[k][j].1) ∧ wx.cell? ⟨gsa[k], j * 2 + 1, none⟩ = some (.int .i64 L[k][j].2) ∧ wx.frozen? ⟨gsa[k], j * 2, none⟩ = false ∧ wx.frozen? ⟨gsa[k], j * 2 + 1, none⟩ = false := by
  obtain ⟨f, h1, h2⟩ := h.row a b
  refine ⟨?_, ?_, h1.frozen _, h1.frozen _⟩
  · rw [h1.cell (i := j * 2) (by omega), h2 _ (by omega), Sp.cellAt_lo _ _ hj]
  · rw [h1.cell (i := j * 2 + 1) (by omega), h2 _ (by omega), Sp.cellAt_hi _ _ hj]
/-- A range of the row at hand is written over. -/
theorem FewIn.set {w3 wx : World} {gsa gsb : List Nat} {L : List (List (Int × Int))} {k j : Nat} {B : Nat} (h : FewIn w3 wx gsa gsb L k j) (a : k < gsa.length) (b : k < L.length) (hinc : gsa.Pairwise (· < ·)) (hlt : ∀ g ∈ gsa, g < B) (hge : ∀ g ∈ gsb, B ≤ g)
    (u u' : Value) : FewIn w3 ((wx.setCell ⟨gsa[k], j * 2, none⟩ u).setCell ⟨gsa[k], j * 2 + 1, none⟩ u') gsa gsb L k (j + 1) := by
  have far : ∀ g, g ≠ gsa[k] → ((wx.setCell ⟨gsa[k], j * 2, none⟩ u).setCell ⟨gsa[k], j * 2 + 1, none⟩ u').heap[g]? = wx.heap[g]? := fun g hg => by
    rw [Go.Deep.blk_setCell_other _ _ _ _ hg, Go.Deep.blk_setCell_other _ _ _ _ hg]
  obtain ⟨f, h1, h2⟩ := h.row a b
  refine ⟨⟨fun i hi p q => (h.out.a i hi p q).of_block (far _ ?_), fun i p q => (h.out.b i p q).of_block (far _ ?_), fun g c fz hg => (far g ?_).trans (h.out.o g c fz hg)⟩, fun p q => ⟨_, (h1.set (j * 2) u).set (j * 2 + 1) u', fun c hc => ?_⟩⟩
  · have := List.pairwise_iff_getElem.1 hinc k i a p (by omega)
    omega
  · have x1 := hlt _ (List.getElem_mem a)
    have x2 := hge _ (List.getElem_mem p)
    omega
  · obtain ⟨c', hc', _⟩ := id h1
    exact kinds_neY (w := wx) ((h.out.o g c fz hg).trans hg) hc' (by decide)
  · show (if c = j * 2 + 1 then u' else if c = j * 2 then u else f c) = _
    rw [if_neg (by omega), if_neg (by omega)]
    exact h2 c (by omega)
theorem Few.cell {w3 wx : World} {gsa gsb : List Nat} {L : List (List (Int × Int))} {k : Nat} (h : Few w3 wx gsa gsb L k) {g j : Nat} {v : Value} (hk : ∃ (c : Array Value) (fz : Nat × Nat), w3.heap[g]? = some (Obj.cells c 24 fz)) (hc : w3.cell? ⟨g, j, none⟩ = some v) : wx.cell? ⟨g, j, none⟩ = some v := by
  obtain ⟨c, fz, hg⟩ := hk
  exact (World.cell?_of_block (w := w3) (a := ⟨g, j, none⟩) (h.o g c fz hg)).trans hc

set_option maxRecDepth 100000 in
set_option maxHeartbeats 2000000 in
theorem few_walk (lo hi : Int) (w : World) :
    Calls Try.prog 4 #[.int .i64 lo, .int .i64 hi] w fun e w' => e = .returned (.bool true) ∧ Below w.heap.size w w' := by
  have H1 := Lib.hid (fun w => rows_any lo hi w)
  have HOK := Lib.hid (Sp.rows_ok lo hi)
  have HLN := Sp.rows_few lo hi
  go_enter Try.func4, Try.ntmps4
  go_wp2_with fail
  refine (H1.out w).mono ?_
  rintro e w1 ⟨va, gsa, rfl, hA, hb1⟩
  have HA1 := Lib.hid hA
  have HB1 := Lib.hid hb1
  clear hA hb1
  go_wp2_with fail
  refine (H1.out w1).mono ?_
  rintro e w2 ⟨vb, gsb, rfl, hB, hb2⟩
  generalize Sp.rows lo hi = L at *
  have HLT : Hid (∀ g ∈ gsa, g < w1.heap.size) := HA1.out.blocks
  have HGE : Hid (∀ g ∈ gsb, w1.heap.size ≤ g) := fun g hg => by
    obtain ⟨j, hj, rfl⟩ := List.mem_iff_getElem.1 hg
    exact (hB.row j hj (by rw [← hB.len]; exact hj)).1
  have HA2 := Lib.hid (HA1.out.below hb2)
  have HB := Lib.hid hB
  have HB2 : Hid (Below w.heap.size w w2) := HB1.out.trans (hb2.mono HB1.out.size)
  have HSZ : Hid (w.heap.size ≤ w1.heap.size) := HB1.out.size
  clear HA1 hB hb2 HB1 H1
  obtain ⟨n, hn⟩ : ∃ n, n = L.length := ⟨_, rfl⟩
  obtain ⟨ad, cap, rfl, _, _, hfa⟩ := HA2.out.form
  obtain ⟨bd, cbp, rfl, _, _, hfb⟩ := HB.out.form
  have HFA := Lib.hid hfa
  have HFB := Lib.hid hfb
  have HN := Lib.hid hn
  rw [← hn] at HLN ⊢
  clear hfa hfb hn
  go_wp2_with fail
  refine (awake_any w2).mono ?_
  rintro e w3 ⟨rfl, hb3⟩
  have HA3 := Lib.hid (HA2.out.below hb3)
  have HB3 := Lib.hid (HB.out.below hb3)
  have HBL : Hid (Below w.heap.size w w3) := HB2.out.trans (hb3.mono HB2.out.size)
  have HB23 := Lib.hid hb3
  have HS0 : Hid (Few w3 w3 gsa gsb L 0) := ⟨fun i _ p q => (HA3.out.row i p q).2, fun i p q => (HB3.out.row i p q).2, fun _ _ _ _ => rfl⟩
  clear hb3
  go_wp2_with fail
  go_loopg [7] n (fun g i wx => ∃ k : Nat, k ≤ n ∧ g = n - k ∧ i = .int .i64 k ∧ Hid (Few w3 wx gsa gsb L k) ∧ Hid (Below w.heap.size w wx))
  case atStart => exact ⟨0, Nat.zero_le _, rfl, rfl, HS0, HBL⟩
  case round =>
    obtain ⟨k, hk, rfl, rfl, hst, hbel⟩ := hrel
    by_cases hkn : k < n
    · have i1 : (k : Int) < (n : Int) := by omega
      have hkL : k < L.length := by rw [← HN.out]; exact hkn
      have hka : k < gsa.length := by rw [HA2.out.len]; exact hkL
      have hkb : k < gsb.length := by rw [HB.out.len]; exact hkL
      obtain ⟨ga, rfl, _, hga, hca⟩ := HFA.out (by omega)
      obtain ⟨gb, rfl, _, hgb, hcb⟩ := HFB.out (by omega)
      have HKA := Lib.hid (HA3.out.kind ga rfl).2.2
      have HKB := Lib.hid (HB3.out.kind gb rfl).2.2
      have HCA : Hid (w3.cell? ⟨ga, k, none⟩ = some (.slice (some ⟨gsa[k], 0, none⟩) L[k].length L[k].length)) := (HB23.out.cell (p := ⟨ga, k, none⟩) hga).trans (hca k hka hkL)
      have HCB : Hid (w3.cell? ⟨gb, k, none⟩ = some (.slice (some ⟨gsb[k], 0, none⟩) L[k].length L[k].length)) := (HB23.out.cell (p := ⟨gb, k, none⟩) hgb).trans (hcb k hkb hkL)
      obtain ⟨l1, l2, l3⟩ := HOK.out L[k] (List.getElem_mem hkL)
      have HL3 := Lib.hid l3
      obtain ⟨m, hm⟩ : ∃ m, L[k].length = m := ⟨_, rfl⟩
      have HM := Lib.hid hm
      rw [hm] at HCA HCB l1 l2
      have c1 : wr.cell? ⟨ga, k, none⟩ = some (.slice (some ⟨gsa[k], 0, none⟩) m m) := hst.out.cell HKA.out HCA.out
      have c2 : wr.cell? ⟨gb, k, none⟩ = some (.slice (some ⟨gsb[k], 0, none⟩) m m) := hst.out.cell HKB.out HCB.out
      clear hca hcb hm l3
      go_wp2_with fail
      go_quiet (fail)
      have HST : Hid (FewIn w3 (wr.drewN nq) gsa gsb L k 0) := (hst.out.drew nq).open
      have HBQ : Hid (Below w.heap.size w (wr.drewN nq)) := belowN hbel.out nq
      clear c1 c2 hst hbel
      go_wp2_with fail
      generalize wr.drewN nq = wo at *
      go_loopg [8] m (fun g' i wx => ∃ j : Nat, j ≤ m ∧ g' = m - j ∧ i = .int .i64 j ∧ Hid (FewIn w3 wx gsa gsb L k j) ∧ Hid (Below w.heap.size w wx))
      case atStart => exact ⟨0, Nat.zero_le _, rfl, rfl, HST, HBQ⟩
      case round =>
        obtain ⟨j, hj, rfl, rfl, hin, hbel⟩ := hrel
        have c1 : wr.cell? ⟨ga, k, none⟩ = some (.slice (some ⟨gsa[k], 0, none⟩) m m) := hin.out.out.cell HKA.out HCA.out
        have c2 : wr.cell? ⟨gb, k, none⟩ = some (.slice (some ⟨gsb[k], 0, none⟩) m m) := hin.out.out.cell HKB.out HCB.out
        by_cases hjm : j < m
        · have i2 : (j : Int) < (m : Int) := by omega
          have hjr : j < L[k].length := by rw [HM.out]; exact hjm
          obtain ⟨x1, x2, x3⟩ := HL3.out L[k][j] (List.getElem_mem hjr)
          obtain ⟨d1, d2, d3, d4⟩ := hin.out.cells hka hkL hjr
          obtain ⟨d5, d6⟩ := (hin.out.out.b k hkb hkL).cells j hjr
          go_wp2_with fail
          go_quiet (fail)
          have HIN2 := Lib.hid (hin.out.drew nq)
          have HBQ2 : Hid (Below w.heap.size w (wr.drewN nq)) := belowN hbel.out nq
          clear c1 c2 d1 d2 d3 d4 d5 d6 hin hbel
          generalize wr.drewN nq = w5 at *
          obtain ⟨d1, d2, d3, d4⟩ := HIN2.out.cells hka hkL hjr
          have c1 : w5.cell? ⟨ga, k, none⟩ = some (.slice (some ⟨gsa[k], 0, none⟩) m m) := HIN2.out.out.cell HKA.out HCA.out
          have HIN3 := Lib.hid (HIN2.out.set hka hkL HA2.out.inc HLT.out HGE.out (.int .i64 (-1)) (.int .i64 0))
          have HB5 : Hid (Below w.heap.size w ((w5.setCell ⟨gsa[k], j * 2, none⟩ (.int .i64 (-1))).setCell ⟨gsa[k], j * 2 + 1, none⟩ (.int .i64 0))) := by
            have hg : w.heap.size ≤ gsa[k] := (HA2.out.row k hka hkL).1
            exact (HBQ2.out.setCell hg _).setCell hg _
          have c2 : ((w5.setCell ⟨gsa[k], j * 2, none⟩ (.int .i64 (-1))).setCell ⟨gsa[k], j * 2 + 1, none⟩ (.int .i64 0)).cell? ⟨gb, k, none⟩ = some (.slice (some ⟨gsb[k], 0, none⟩) m m) := HIN3.out.out.cell HKB.out HCB.out
          obtain ⟨d5, d6⟩ := (HIN3.out.out.b k hkb hkL).cells j hjr
          go_wp2_with fail
          go_roundg (m - (j + 1))
          case rel => exact ⟨j + 1, by omega, rfl, by go_num, HIN3, HB5⟩
          case measure => omega
        · go_wp2_with fail
          go_roundg (n - (k + 1))
          case rel => exact ⟨k + 1, by omega, rfl, by go_num, hin.out.out, hbel⟩
          case measure => omega
    · have hkk : k = n := by omega
      go_wp2_with fail
      go_ret
      exact ⟨rfl, hbel.out⟩
end Go.Proofs.Ytmpjhbbcfnffhaa
