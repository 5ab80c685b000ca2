/-
  Two disks play a script as the document says: the walk of the statement VfsPlays.
-/
import Derived.Test.YtdohenbicepicaaDk
import Derived.Test.YtdohenbicepicaaLc
namespace Go.Proofs.Ytdohenbicepicaa
open Go.RowKit Go.Maps
set_option linter.unusedVariables false

/-- A slice of steps that came in. -/
structure Stp where
  kind : Int
  P : ByteArray
  Q : ByteArray
  n : Int
def InSteps (w : World) (a : Option Addr) (len : Nat) (S : Nat → Stp) : Prop :=
  0 < len → ∃ b off, a = some ⟨b, off, none⟩ ∧ b < w.heap.size ∧ ∀ k, k < len → w.cell? ⟨b, off + k * 4, none⟩ = some (.int .i64 (S k).kind) ∧ w.cell? ⟨b, off + k * 4 + 1, none⟩ = some (.string (S k).P) ∧ w.cell? ⟨b, off + k * 4 + 2, none⟩ = some (.string (S k).Q) ∧ w.cell? ⟨b, off + k * 4 + 3, none⟩ = some (.int .i64 (S k).n) ∧
    (S k).P.size ≤ 1048576 ∧ (S k).Q.size ≤ 1048576 ∧ (-9223372036854775808 ≤ (S k).n ∧ (S k).n ≤ 9223372036854775807)
theorem Duo.looks1b {w wx : World} {p1 b1 p2 b2 c x : Nat} (h : Duo w wx p1 b1 p2 b2 c x) (hc : c ≤ 1048000) (P : ByteArray) (hP : P.size ≤ 1048576) :
    Calls Try.prog 12 #[.pointer (some ⟨p1, 0, none⟩), .pointer (some ⟨b1, 0, none⟩), .string P] wx fun e w' => e = .returned (.bool true) ∧ Below wx.heap.size wx w' := by
  obtain ⟨D1, F1, G1, D2, F2, G2, h1, h2, h3, h4, h5⟩ := h
  exact looks_any wx p1 b1 D1 c F1 G1 h1 hc P hP
theorem refNew {w3 w4 : World} (h : RefA w4 w3.heap.size (.slice none 0 0) (.slice none 0 0) (.slice none 0 0) Vf.new) : RA w4 w3.heap.size Vf.new (fun k => k = w3.heap.size) := by
  refine ⟨_, _, _, h, fun k hk => ?_, fun k hk => ?_⟩
  · rcases hk with e | e | e | e
    · exact e
    · cases e
    · cases e
    · cases e
  · rw [hk]; exact h.row.lt
theorem Duo.start {w w1 w2 w3 w4 w5 : World} {p1 p2 : Nat} (hA1 : PA w1 p1 Vf.new (fun k => w.heap.size ≤ k ∧ k < w1.heap.size)) (hA2 : PA w2 p2 Vf.new (fun k => w1.heap.size ≤ k ∧ k < w2.heap.size)) (hR1 : RA w4 w3.heap.size Vf.new (fun k => k = w3.heap.size)) (hR2 : RA w5 w4.heap.size Vf.new (fun k => k = w4.heap.size))
    (b1 : Below w.heap.size w w1) (b2 : Below w1.heap.size w1 w2) (b3 : Below w2.heap.size w2 w3) (b4 : Below w3.heap.size w3 w4) (b5 : Below w4.heap.size w4 w5) : Duo w w5 p1 w3.heap.size p2 w4.heap.size 0 w5.heap.size := by
  have s1 := b1.size; have s2 := b2.size; have s3 := b3.size; have s4 := b4.size; have s5 := b5.size
  have l1 := hR1.lt _ rfl
  have l2 := hR2.lt _ rfl
  refine ⟨Vf.new, _, _, Vf.new, _, _, ⟨hA1.keep (fun k hk => ?_) (by omega), hR1.keep (fun k hk => b5.block k (by omega)) s5, Vf.okF_new _, fun k hk e => by omega⟩, ⟨hA2.keep (fun k hk => ?_) (by omega), hR2, Vf.okF_new _, fun k hk e => by omega⟩, fun k hk => ⟨?_, ?_, ?_⟩, fun k hk => ⟨?_, ?_⟩, ?_⟩
  · rw [b5.block k (by omega), b4.block k (by omega), b3.block k (by omega), b2.block k (by omega)]
  · rw [b5.block k (by omega), b4.block k (by omega), b3.block k (by omega)]
  · rcases hk with hk | hk <;> omega
  · rcases hk with hk | hk <;> omega
  · rcases hk with hk | hk <;> omega
  · rcases hk with hk | hk <;> omega
  · rcases hk with hk | hk <;> omega
  · exact (((b1.trans (b2.mono s1)).trans (b3.mono (by omega))).trans (b4.mono (by omega))).trans (b5.mono (by omega))

set_option maxRecDepth 100000 in
set_option maxHeartbeats 16000000 in
theorem vfsPlays_walk (a : Option Addr) (len cap : Nat) (S : Nat → Stp) (w : World) (hI : InSteps w a len S) (hlen : len ≤ 9223372036854775807) : Calls Try.prog 3 #[.slice a len cap] w fun e w' => e = .returned (.bool true) ∧ Below w.heap.size w w' := by
  have HI := Lib.hid hI
  clear hI
  go_enter Try.func3, Try.ntmps3
  go_wp2_with fail
  refine (newP_any w).mono ?_
  rintro e1 w1 ⟨p1, rfl, _, hA1, hB1⟩
  have HA1 := Lib.hid hA1; have HB1 := Lib.hid hB1; clear hA1 hB1
  go_wp2_with fail
  refine (newP_any w1).mono ?_
  rintro e1 w2 ⟨p2, rfl, _, hA2, hB2⟩
  have HA2 := Lib.hid hA2; have HB2 := Lib.hid hB2; clear hA2 hB2
  go_wp2_with fail
  refine (awake_any w2).mono ?_
  rintro e1 w3 ⟨rfl, hB3⟩
  have HB3 := Lib.hid hB3; clear hB3
  go_wp2_with fail
  refine (newR_any w3).mono ?_
  rintro e1 w4 ⟨rfl, hR1, hB4⟩
  have HR1 := Lib.hid (refNew hR1); have HB4 := Lib.hid hB4; clear hR1 hB4
  go_wp2_with fail
  refine (newR_any w4).mono ?_
  rintro e1 w5 ⟨rfl, hR2, hB5⟩
  have HD := Lib.hid (Duo.start HA1.out HA2.out HR1.out (refNew hR2) HB1.out HB2.out HB3.out HB4.out hB5)
  clear hR2 hB5 HA1 HA2 HR1 HB1 HB2 HB3 HB4
  generalize w3.heap.size = b1 at *
  generalize w4.heap.size = b2 at *
  go_wp2_with fail
  go_loopg [7] len (fun gg iv wx => ∃ k : Nat, k ≤ len ∧ k ≤ 200 ∧ gg = len - k ∧ iv = .int .i64 (k : Int) ∧ Duo w wx p1 b1 p2 b2 k wx.heap.size)
  case atStart => exact ⟨0, by omega, by omega, by omega, rfl, HD.out⟩
  case round =>
    clear HD
    obtain ⟨k, hk, hk2, rfl, rfl, hd⟩ := hrel
    have HD := Lib.hid hd
    clear hd
    by_cases hlt : k < len ∧ k < 200
    · obtain ⟨hl1, hl2⟩ := hlt
      have i1 : (k : Int) < (len : Int) := by omega
      have i2 : (k : Int) < 200 := by omega
      obtain ⟨b, off, rfl, hb, hc⟩ := HI.out (by omega)
      obtain ⟨c0, c1, c2, c3, z1, z2, z3⟩ := hc k hl1
      have hbel : Below w.heap.size w wr := by obtain ⟨_, _, _, _, _, _, _, _, _, _, h⟩ := HD.out; exact h
      have k0 : wr.cell? ⟨b, off + k * 4, none⟩ = some (.int .i64 (S k).kind) := (hbel.cell (p := ⟨b, off + k * 4, none⟩) hb).trans c0
      have k1 : wr.cell? ⟨b, off + k * 4 + 1, none⟩ = some (.string (S k).P) := (hbel.cell (p := ⟨b, off + k * 4 + 1, none⟩) hb).trans c1
      have k2 : wr.cell? ⟨b, off + k * 4 + 2, none⟩ = some (.string (S k).Q) := (hbel.cell (p := ⟨b, off + k * 4 + 2, none⟩) hb).trans c2
      have k3 : wr.cell? ⟨b, off + k * 4 + 3, none⟩ = some (.int .i64 (S k).n) := (hbel.cell (p := ⟨b, off + k * 4 + 3, none⟩) hb).trans c3
      clear hc c0 c1 c2 c3 hbel
      generalize S k = s at *
      obtain ⟨kd, P, Q, n⟩ := s
      simp only at k0 k1 k2 k3 z1 z2 z3
      obtain ⟨q0, q1, q2, q3⟩ := step_cells wr kd n P Q
      have HDa : Hid (Duo w (wr.alloc (stepO kd n P Q)) p1 b1 p2 b2 k wr.heap.size) := HD.out.fresh ((Below.refl _ _).alloc (Nat.le_refl _) _) (.inl (Nat.le_refl _))
      have hxl : wr.heap.size < (wr.alloc (stepO kd n P Q)).heap.size := by simp
      have HC : Hid (∀ wx : World, wx.heap[wr.heap.size]? = (wr.alloc (stepO kd n P Q)).heap[wr.heap.size]? → wx.cell? ⟨wr.heap.size, 1, none⟩ = some (.string P) ∧ wx.cell? ⟨wr.heap.size, 2, none⟩ = some (.string Q)) := fun wx e => ⟨(World.cell?_of_block e).trans q1, (World.cell?_of_block e).trans q2⟩
      have hw : wr.alloc (.cells #[.int .i64 kd, .string P, .string Q, .int .i64 n] 29) = wr.alloc (stepO kd n P Q) := rfl
      have t5 : (k : Int).tmod 5 = (k : Int) % 5 := by rw [Int.tmod_eq_emod_of_nonneg (by omega)]
      generalize wr.alloc (stepO kd n P Q) = wb at *
      clear HD
      by_cases h4 : (k : Int) % 5 = 4
      · have HS1 := Lib.hid (HDa.out.swap.does1 hxl (by omega) kd n P Q z1 z2 z3)
        go_wp2_with fail
        clear q0 q1 q2 q3
        refine HS1.out.mono ?_
        rintro e1 w6 ⟨rfl, hd, he, hs⟩
        obtain ⟨m1, m2⟩ := HC.out w6 he
        have hx6 : wr.heap.size < w6.heap.size := by omega
        have HL := Lib.hid (hd.looks1 hx6 (by omega) P z1)
        clear hd he hs
        go_wp2_with fail
        refine HL.out.mono ?_
        rintro e1 w7 ⟨rfl, hd, he, hs⟩
        have HF : Hid (Duo w w7 p1 b1 p2 b2 (k + 1) w7.heap.size) := hd.swap.fresh (Below.refl _ _) (.inl (Nat.le_refl _))
        clear hd he hs
        go_wp2_with fail
        go_roundg (len - (k + 1))
        case rel => exact ⟨k + 1, by omega, by omega, rfl, by go_num, HF.out⟩
        case measure => omega
      · have HS1 := Lib.hid (HDa.out.does1 hxl (by omega) kd n P Q z1 z2 z3)
        go_wp2_with fail
        clear q0 q1 q2 q3
        refine HS1.out.mono ?_
        rintro e1 w6 ⟨rfl, hd, he, hs⟩
        obtain ⟨m1, m2⟩ := HC.out w6 he
        have hx6 : wr.heap.size < w6.heap.size := by omega
        have HL := Lib.hid (hd.looks1 hx6 (by omega) P z1)
        have HE := Lib.hid he
        clear hd he hs
        go_wp2_with fail
        refine HL.out.mono ?_
        rintro e1 w7 ⟨rfl, hd, he, hs⟩
        obtain ⟨m3, m4⟩ := HC.out w7 (he.trans HE.out)
        have hx7 : wr.heap.size < w7.heap.size := by omega
        have HL2 := Lib.hid (hd.looks1 hx7 (by omega) Q z2)
        clear hd he hs
        go_wp2_with fail
        refine HL2.out.mono ?_
        rintro e1 w8 ⟨rfl, hd, he, hs⟩
        have HF : Hid (Duo w w8 p1 b1 p2 b2 (k + 1) w8.heap.size) := hd.fresh (Below.refl _ _) (.inl (Nat.le_refl _))
        clear hd he hs
        go_wp2_with fail
        go_roundg (len - (k + 1))
        case rel => exact ⟨k + 1, by omega, by omega, rfl, by go_num, HF.out⟩
        case measure => omega
    · have hend : Hid ((k : Int) = len ∨ (k : Int) < (len : Int) ∧ (k : Int) = 200) := by show _ ∨ _; omega
      obtain ⟨D, na, cp, hc1, hL, hne, hcs⟩ := HD.out.names
      have hb1 : b1 < wr.heap.size := World.block_lt_of_cell? wr _ hc1
      have HCS := Lib.hid hcs
      have HNE := Lib.hid hne
      clear hcs hne HI
      obtain ⟨L, hLL⟩ : ∃ L, L = D.names.length := ⟨_, rfl⟩
      have HLL := Lib.hid hLL
      rw [← hLL] at hc1 hL
      clear hLL
      have HK : Hid (∀ wx, Below wr.heap.size wr wx → wx.cell? ⟨b1, 1, none⟩ = some (.slice na L cp)) := fun wx hb => (hb.cell (p := ⟨b1, 1, none⟩) hb1).trans hc1
      rcases hend.out with hl | ⟨hl, hl'⟩
      · obtain rfl : k = len := by omega
        clear hl hlt hend
        generalize wr = wL at *
        go_wp2_with fail
        go_loopg [9] L (fun gg iv wx => ∃ i : Nat, i ≤ L ∧ gg = L - i ∧ iv = .int .i64 (i : Int) ∧ Below wL.heap.size wL wx)
        case atStart => exact ⟨0, by omega, by omega, rfl, Below.refl _ _⟩
        case round =>
          obtain ⟨i, hi, rfl, rfl, hb⟩ := hrel
          have k1 := HK.out wr hb
          by_cases hiL : i < L
          · have i1 : (i : Int) < (L : Int) := by omega
            obtain ⟨g, rfl⟩ := HNE.out (by rw [← HLL.out]; omega)
            obtain ⟨g1, g2⟩ := HCS.out g rfl i (by rw [← HLL.out]; exact hiL)
            have k2 : wr.cell? ⟨g, i * 2, none⟩ = some (.string D.names[i].name) := (hb.cell (p := ⟨g, i * 2, none⟩) (World.block_lt_of_cell? wL _ g1)).trans g1
            have HL := Lib.hid ((HD.out.fresh hb (.inl (Nat.le_refl _))).looks1b (by omega) D.names[i].name (by omega))
            have HB := Lib.hid hb
            clear g1 g2 hb
            generalize D.names[i].name = nm at *
            go_wp2_with fail
            refine HL.out.mono ?_
            rintro e1 w6 ⟨rfl, hb6⟩
            have HB6 : Hid (Below wL.heap.size wL w6) := HB.out.trans (hb6.mono HB.out.size)
            clear hb6
            go_wp2_with fail
            go_roundg (L - (i + 1))
            case rel => exact ⟨i + 1, by omega, rfl, by go_num, HB6.out⟩
            case measure => omega
          · obtain rfl : i = L := by omega
            have HE := HD.out.fresh hb (y := wL.heap.size) (.inl (Nat.le_refl _))
            have HL := Lib.hid (HE.swap.looks1b (by omega) sA (by decide))
            have hbel : Below w.heap.size w wr := by obtain ⟨_, _, _, _, _, _, _, _, _, _, h⟩ := HE; exact h
            have HB := Lib.hid hbel
            clear HE hb hbel
            go_wp2_with fail
            refine HL.out.mono ?_
            rintro e1 w6 ⟨rfl, hb6⟩
            have HB6 : Hid (Below w.heap.size w w6) := HB.out.trans (hb6.mono HB.out.size)
            clear hb6
            go_wp2_with fail
            go_ret
            exact ⟨rfl, HB6.out⟩
      · obtain rfl : k = 200 := by omega
        clear hl' hlt hend
        generalize wr = wL at *
        go_wp2_with fail
        go_loopg [9] L (fun gg iv wx => ∃ i : Nat, i ≤ L ∧ gg = L - i ∧ iv = .int .i64 (i : Int) ∧ Below wL.heap.size wL wx)
        case atStart => exact ⟨0, by omega, by omega, rfl, Below.refl _ _⟩
        case round =>
          obtain ⟨i, hi, rfl, rfl, hb⟩ := hrel
          have k1 := HK.out wr hb
          by_cases hiL : i < L
          · have i1 : (i : Int) < (L : Int) := by omega
            obtain ⟨g, rfl⟩ := HNE.out (by rw [← HLL.out]; omega)
            obtain ⟨g1, g2⟩ := HCS.out g rfl i (by rw [← HLL.out]; exact hiL)
            have k2 : wr.cell? ⟨g, i * 2, none⟩ = some (.string D.names[i].name) := (hb.cell (p := ⟨g, i * 2, none⟩) (World.block_lt_of_cell? wL _ g1)).trans g1
            have HL := Lib.hid ((HD.out.fresh hb (.inl (Nat.le_refl _))).looks1b (by omega) D.names[i].name (by omega))
            have HB := Lib.hid hb
            clear g1 g2 hb
            generalize D.names[i].name = nm at *
            go_wp2_with fail
            refine HL.out.mono ?_
            rintro e1 w6 ⟨rfl, hb6⟩
            have HB6 : Hid (Below wL.heap.size wL w6) := HB.out.trans (hb6.mono HB.out.size)
            clear hb6
            go_wp2_with fail
            go_roundg (L - (i + 1))
            case rel => exact ⟨i + 1, by omega, rfl, by go_num, HB6.out⟩
            case measure => omega
          · obtain rfl : i = L := by omega
            have HE := HD.out.fresh hb (y := wL.heap.size) (.inl (Nat.le_refl _))
            have HL := Lib.hid (HE.swap.looks1b (by omega) sA (by decide))
            have hbel : Below w.heap.size w wr := by obtain ⟨_, _, _, _, _, _, _, _, _, _, h⟩ := HE; exact h
            have HB := Lib.hid hbel
            clear HE hb hbel
            go_wp2_with fail
            refine HL.out.mono ?_
            rintro e1 w6 ⟨rfl, hb6⟩
            have HB6 : Hid (Below w.heap.size w w6) := HB.out.trans (hb6.mono HB.out.size)
            clear hb6
            go_wp2_with fail
            go_ret
            exact ⟨rfl, HB6.out⟩
end Go.Proofs.Ytdohenbicepicaa
