/-
  Lemmas on automata, the program's calls and the given ones, put together of 7 texts (part 3).
-/
import Derived.Test.YtmhchajdeneabaaGreatDoorQ2
import Derived.RegionTactic
import Derived.Laws.BitsLemmas
import Derived.Test.YtmhchajdeneabaaGreatDoorQ1
import Derived.WalkKit
import Derived.WalkSpells
import Derived.WalkLawsBesides
import Derived.IntWalk
import Derived.Lib.Hide
import Derived.OwnWalk
import Derived.Laws.IdiomStrings
import Derived.Deep.LoopGhost
import Derived.Deep.OwnRows
import Derived.Lib.Strings
import Derived.BigQuiet
import Derived.Laws.AppendOwnNone
import Derived.Lib.OthersKept
/-
  Where bytes lead two states at once, plainly: two rows of arcs gone through side by side.
-/
namespace Go.Proofs.YtmhchajdeneabaaGreatDoor
namespace Au
theorem look_low {n : Nat} {c : Int} {l : List Arc} (h : Row n c l) (z : Int) (hz : ∀ a ∈ l, z < a.lo) : look l z = none := by
  induction l with
  | nil => rfl
  | cons a r ih =>
    have := hz a (List.mem_cons_self ..)
    unfold look
    rw [if_neg (by omega)]
    exact ih h.tail.1 fun x hx => hz x (List.mem_cons_of_mem _ hx)
theorem look_skip (a : Arc) (r : List Arc) (z : Int) (hz : a.hi < z) : look (a :: r) z = look r z := by
  show (if a.lo ≤ z ∧ z ≤ a.hi then some a.to else look r z) = _
  rw [if_neg (by omega)]
theorem look_hit (a : Arc) (r : List Arc) (z : Int) (h : a.lo ≤ z ∧ z ≤ a.hi) : look (a :: r) z = some a.to := by
  show (if a.lo ≤ z ∧ z ≤ a.hi then some a.to else look r z) = _
  rw [if_pos h]
theorem look_ahead {n : Nat} {c : Int} {a : Arc} {r : List Arc} (h : Row n c (a :: r)) (z : Int) (hz : z < a.lo) : look (a :: r) z = none :=
  look_low h z fun x hx => by
    obtain ⟨_, h2, h3⟩ := h.tail
    rcases List.mem_cons.1 hx with rfl | hx
    · exact hz
    · have := h3 x hx; omega
end Au
end Go.Proofs.YtmhchajdeneabaaGreatDoor

/-
  The program's stretchesOf: the walk.
-/
namespace Go.Proofs.YtmhchajdeneabaaGreatDoor
open Go.RowKit

set_option maxRecDepth 100000 in
set_option maxHeartbeats 4000000 in
theorem stretches_any (F : Nat → Prop) (w : World) (v : Value) (L : List (List Au.Arc)) (hv : RowsS F w v L) (hL : ∀ l ∈ L, ∀ a ∈ l, Au.byteArc a) (hbig : L.flatten.length ≤ 1099511627776) :
    Calls Tryz.prog 69 #[v] w fun e w' => ∃ u S, e = .returned u ∧ Au.Cut L.flatten 0 S ∧ StrS (fun g => w.heap.size ≤ g) w' u S ∧ Below w.heap.size w w' := by
  obtain ⟨a, cap, rfl, hc1, hc2, hc⟩ := hv
  obtain ⟨n, hn⟩ : ∃ n, n = L.length := ⟨_, rfl⟩
  have hn2 : n ≤ 9223372036854775807 := by omega
  have HC := Lib.hid hc
  have HN := Lib.hid hn
  have HLA := Lib.hid hL
  have HR0 : Hid ((w.alloc (.cells Tryz.zeroCells132 132)).rowIs w.heap.size 132 257 (fun j => .bool (Au.marks [] j))) := by rw [zero257]; exact row_repl w 257 _ _
  have HB0 : Hid (Below w.heap.size w (w.alloc (.cells Tryz.zeroCells132 132))) := (Below.refl _ _).alloc (Nat.le_refl _) _
  rw [← hn]
  clear hc hc1 hn hL
  go_enter Tryz.func69, Tryz.ntmps69
  go_wp2_with fail
  generalize w.alloc (.cells Tryz.zeroCells132 132) = w1 at *
  obtain ⟨B, hB⟩ : ∃ B, w.heap.size = B := ⟨_, rfl⟩
  have hBB : w.heap.size ≤ B := by omega
  simp only [hB] at HR0 HB0 ⊢
  go_loopg [18] n (fun gg vi wx => ∃ i : Nat, i ≤ n ∧ gg = n - i ∧ vi = .int .i64 i ∧ Hid (wx.rowIs B 132 257 (fun j => .bool (Au.marks (L.take i).flatten j))) ∧ Hid (Below B w wx))
  case atStart => exact ⟨0, Nat.zero_le _, rfl, rfl, HR0, HB0⟩
  case round =>
    clear HR0 HB0
    obtain ⟨i, hi, rfl, rfl, hR, hbel⟩ := hrel
    by_cases hin : i < n
    · have j1 : (i : Int) < (n : Int) := by omega
      have hil : i < L.length := by rw [← HN.out]; exact hin
      obtain ⟨g, o, rfl, hg, _, hcl⟩ := HC.out (by omega)
      obtain ⟨va, c1, hva⟩ := hcl i hil
      have e1 := (hbel.out.cell (p := ⟨g, o + i, none⟩) (by rw [← hB]; exact hg)).trans c1
      have hAL : Hid (∀ a ∈ L[i], Au.byteArc a) := HLA.out _ (List.getElem_mem hil)
      have hnx : Hid ((L.take (i + 1)).flatten = (L.take i).flatten ++ L[i]) := by
        show _ = _
        rw [List.take_succ_eq_append_getElem hil, List.flatten_append]
        simp
      generalize L[i] = l at *
      generalize (L.take i).flatten = A at *
      obtain ⟨a2, cap2, rfl, hd1, hd2, hd⟩ := hva
      obtain ⟨m, hm⟩ : ∃ m, m = l.length := ⟨_, rfl⟩
      have hm2 : m ≤ 9223372036854775807 := by omega
      have HD := Lib.hid hd
      have HM := Lib.hid hm
      rw [← hm] at e1
      have hR1 : Hid (wr.rowIs B 132 257 (fun j => .bool (Au.marks (A ++ l.take 0) j))) := by rw [List.take_zero, List.append_nil]; exact hR
      clear c1 hcl hd hd1 hm hR
      go_wp2_with fail
      go_loopg [24] m (fun gg vk wx => ∃ k : Nat, k ≤ m ∧ gg = m - k ∧ vk = .int .i64 k ∧ Hid (wx.rowIs B 132 257 (fun j => .bool (Au.marks (A ++ l.take k) j))) ∧ Hid (Below B w wx))
      case atStart => exact ⟨0, Nat.zero_le _, rfl, rfl, hR1, hbel⟩
      case round =>
        clear hR1 hbel e1
        obtain ⟨k, hk, rfl, rfl, hR, hbel⟩ := hrel
        by_cases hkm : k < m
        · have kl : k < l.length := by rw [← HM.out]; exact hkm
          have j2 : (k : Int) < (m : Int) := by omega
          obtain ⟨g2, o2, rfl, hg2, _, hcl2⟩ := HD.out (by omega)
          obtain ⟨d1, d2, d3⟩ := hcl2 k kl
          have e1 := (hbel.out.cell (p := ⟨g2, o2 + k * 3, none⟩) (by rw [← hB]; exact hg2)).trans d1
          have e2 := (hbel.out.cell (p := ⟨g2, o2 + k * 3 + 1, none⟩) (by rw [← hB]; exact hg2)).trans d2
          have e3 := (hbel.out.cell (p := ⟨g2, o2 + k * 3 + 2, none⟩) (by rw [← hB]; exact hg2)).trans d3
          have hby := hAL.out _ (List.getElem_mem kl)
          have hst : Hid (∀ x, Au.marks (A ++ l.take (k + 1)) x = (Au.marks (A ++ l.take k) x || (decide (l[k].lo = (x : Int)) || decide (l[k].hi + 1 = (x : Int))))) := fun x => by
            rw [List.take_succ_eq_append_getElem kl, ← List.append_assoc, Au.marks_snoc]
          clear d1 d2 d3 hcl2
          generalize l[k] = x at *
          obtain ⟨lo, hi', to⟩ := x
          dsimp only at e1 e2 e3 hst
          obtain ⟨y1, y2, y3⟩ := hby
          dsimp only at y1 y2 y3
          obtain ⟨p, rfl⟩ : ∃ p : Nat, lo = (p : Int) := ⟨lo.toNat, by omega⟩
          obtain ⟨q, rfl⟩ : ∃ q : Nat, hi' = (q : Int) := ⟨hi'.toNat, by omega⟩
          have hR1 := hR.out.alloc (.cells #[.int .i64 (p : Int), .int .i64 (q : Int), .int .i64 to] 71)
          have HB1 : Hid (Below B w (wr.alloc (.cells #[.int .i64 (p : Int), .int .i64 (q : Int), .int .i64 to] 71))) := hbel.out.alloc (by rw [← hB]; exact hbel.out.size) _
          have p1 := hR1.cell (i := p) (by omega)
          have p2 := hR1.frozen p
          have HR3 := (hR.out.set p (.bool true)).alloc (.cells #[.int .i64 (p : Int), .int .i64 (q : Int), .int .i64 to] 71)
          have HR2 : Hid (((((wr.setCell ⟨B, p, none⟩ (.bool true)).setCell ⟨B, q + 1, none⟩ (.bool true)).alloc (.cells #[.int .i64 (p : Int), .int .i64 (q : Int), .int .i64 to] 71)).drew).rowIs B 132 257 (fun j => .bool (Au.marks (A ++ l.take (k + 1)) j))) := by
            refine World.rowIs.congr (World.rowIs.drew (((hR.out.set p (.bool true)).set (q + 1) (.bool true)).alloc _)) fun j _ => ?_
            rw [hst.out]
            by_cases k1 : j = q + 1
            · subst k1
              simp
            · by_cases k2 : j = p
              · subst k2
                simp
              · rw [if_neg k1, if_neg k2]
                have f1 : decide ((p : Int) = (j : Int)) = false := decide_eq_false (by omega)
                have f2 : decide ((q : Int) + 1 = (j : Int)) = false := decide_eq_false (by omega)
                rw [f1, f2]
                simp
          have HB2 : Hid (Below B w ((((wr.setCell ⟨B, p, none⟩ (.bool true)).setCell ⟨B, q + 1, none⟩ (.bool true)).alloc (.cells #[.int .i64 (p : Int), .int .i64 (q : Int), .int .i64 to] 71)).drew)) := by
            refine Below.drew (Below.alloc ?_ ?_ _)
            · exact ((hbel.out.setCell (p := ⟨B, p, none⟩) (Nat.le_refl _) _).setCell (p := ⟨B, q + 1, none⟩) (Nat.le_refl _) _)
            · simp [World.setCell]
              have := hbel.out.size
              omega
          have q1 := HR3.cell (i := q + 1) (by omega)
          have q2 := HR3.frozen (q + 1)
          have hBw : B < wr.heap.size := hR.out.lt
          clear hR hR1 HR3 hst hbel
          go_wp2_with fail
          go_region
          all_goals
            go_wp2_with fail
            go_roundg (m - (k + 1))
            case rel => exact ⟨k + 1, by omega, rfl, by go_num, HR2, HB2⟩
            case measure => omega
        · obtain rfl : k = m := by omega
          have hR2 : Hid (wr.rowIs B 132 257 (fun j => .bool (Au.marks (L.take (i + 1)).flatten j))) := by
            have h := hR.out
            rw [List.take_of_length_le (by rw [← HM.out]; exact Nat.le_refl _), ← hnx.out] at h
            exact h
          clear hR
          go_wp2_with fail
          go_roundg (n - (i + 1))
          case rel => exact ⟨i + 1, by omega, rfl, by go_num, hR2, hbel⟩
          case measure => omega
    · obtain rfl : i = n := by omega
      have hR2 : Hid (wr.rowIs B 132 257 (fun j => .bool (Au.marks L.flatten j))) := by
        have h := hR.out
        rw [List.take_of_length_le (by rw [← HN.out]; exact Nat.le_refl _)] at h
        exact h
      clear hR
      have hBw : B < wr.heap.size := hR2.out.lt
      obtain ⟨C, hC⟩ : ∃ C, wr.heap.size = C := ⟨_, rfl⟩
      obtain ⟨b, hb⟩ : ∃ b, b = Au.marks L.flatten := ⟨_, rfl⟩
      have HBM := Lib.hid hb
      have HR3 : Hid ((wr.alloc (.cells Tryz.zeroCells133 133)).rowIs B 132 257 (fun j => .bool (b j))) := by rw [hb]; exact hR2.out.alloc _
      have HO3 : Hid ((wr.alloc (.cells Tryz.zeroCells133 133)).rowIs C 133 256 (fun j => .int .i64 (if j < 0 then (Au.cnt b j : Int) else 0))) := by rw [zero256, ← hC]; exact row_repl wr 256 _ _
      have HB3 : Hid (Below B w (wr.alloc (.cells Tryz.zeroCells133 133))) := hbel.out.alloc (by omega) _
      have HK : Hid (LoB (fun k => if k = B then 1 else if k = C then 2 else 0) (wr.alloc (.cells Tryz.zeroCells133 133)) B) := fun k _ hk => by
        dsimp only at hk
        split at hk
        · omega
        · split at hk <;> omega
      have hBC : B < C := by omega
      clear hR2 hbel hb
      go_wp2_with fail
      generalize wr.alloc (.cells Tryz.zeroCells133 133) = w2 at *
      have HP0 : Hid (P2 b B C w2 w 0 0 [] (fun k => if k = B then 1 else if k = C then 2 else 0) (.slice none 0 0)) := ⟨rfl, Nat.le_refl _, Au.segs_zero b, (by simp), (by simp; omega), HK.out, RowC.nil _ _ _ _ _, HR3.out, HO3.out, HB3.out⟩
      obtain ⟨ii, hi, hz0, hz1, hz2⟩ := info_parts Tryz.infoStr
      clear HK HR3 HO3 HB3 hC
      go_loopg [8, 37] 256 (fun gg va vi wx => ∃ (c N : Nat) (Z : List (Nat × Nat)) (κ : Nat → Nat) (ad : Option Addr) (cp : Nat), c ≤ 256 ∧ gg = 256 - c ∧ vi = .int .i64 c ∧ va = .slice ad N cp ∧ B ≤ wx.heap.size ∧ Hid (P2 b B C wx w c N Z κ (.slice ad N cp)))
      case atStart => exact ⟨0, 0, [], _, none, 0, Nat.zero_le _, rfl, rfl, rfl, Nat.le_of_lt HP0.out.beg.lt, HP0⟩
      case round =>
        clear HP0
        obtain ⟨c, N, Z, κ, ad, cp, hc, rfl, rfl, rfl, hBr, hP⟩ := hrel
        have hNc := hP.out.le
        have hNl := hP.out.len
        by_cases hcm : c < 256
        · have j1 : (c : Int) < 256 := by omega
          have e1 := hP.out.beg.cell (i := c) (by omega)
          by_cases hbc : c = 0 ∨ b c = true
          · obtain ⟨z1, z2⟩ := Au.segs_new hP.out.segs hbc
            have HD : Hid (∀ g cp w3, RowC (paint κ wr.heap.size 3) 3 w3 116 3 (.slice (some ⟨g, 0, none⟩) (N + 1) cp) (N + 1) (segV Z ++ [.int .i64 (c : Int), .int .i64 0, .slice none 0 0]) → Step κ 3 wr w3 (paint κ wr.heap.size 3) → _) := fun g cp w3 k1 k2 => hP.out.done (lo := c) hcm hBr k2 k1 (by omega) (by omega) z1 z2
            rw [hNl] at HD
            have hAll := Lib.hid hP.out.all
            have hg : ((c : Int) == 0) = true ∨ (((c : Int) == 0) = false ∧ b c = true) := by
              rcases hbc with e | e
              · exact .inl (beq_iff_eq.2 (by omega))
              · by_cases e0 : c = 0
                · exact .inl (beq_iff_eq.2 (by omega))
                · exact .inr ⟨beq_eq_false_iff_ne.2 (by omega), e⟩
            clear hP hbc z1 z2
            rcases hg with g0 | ⟨g0, g1⟩
            rotate_left
            rw [g1] at e1
            all_goals
              go_wp2_with (at_builtin; refine wpList_pushC rfl _ _ 113 116 rfl ii _ 3 40 Tryz.underlying113 hi hz0 hz1 hz2 rfl (by decide) κ 3 _ N (segV Z) rfl hAll.out [.int .i64 (c : Int), .int .i64 0, .slice none 0 0] rfl (one_of rfl) rfl (by omega) (by omega) ?_; intro g2 cp2 w3 hr3 hs3; obtain ⟨⟨k1, k2, k3, k4, k5⟩, hP3⟩ := HD.out g2 cp2 w3 hr3 hs3; have HP3 := Lib.hid hP3; have hB3 : B ≤ w3.heap.size := Nat.le_trans hBr hs3.size; clear hr3 hs3 hP3)
              go_roundg (256 - (c + 1))
              case rel => exact ⟨c + 1, N + 1, _, _, _, cp2, by omega, rfl, by go_num, rfl, (by simpa [World.setCell] using hB3), HP3⟩
              case measure => omega
          · have hc0 : c ≠ 0 := fun e => hbc (.inl e)
            have hbf : b c = false := by
              rw [← Bool.not_eq_true]
              exact fun e => hbc (.inr e)
            obtain ⟨Y, z, rfl, z1, z2⟩ := Au.segs_more hP.out.segs hc0 hbf
            have hYl : Y.length + 1 = N := by rw [← hNl, List.length_append]; rfl
            have hAll := hP.out.all
            obtain ⟨a5, cp5, hv5, _, _, hf5⟩ := hAll.form
            simp only [Value.slice.injEq] at hv5
            obtain ⟨rfl, _, rfl⟩ := hv5
            obtain ⟨g2, rfl, _, _, _, _⟩ := hf5 (by omega)
            rw [segV_snoc] at hAll
            have hD := hP.out.done (lo := z.1) (x := .int .i64 (z.2 : Int)) (Y := Y) (N' := N) (g := g2) (cp := cp) (κ' := κ) hcm hBr ⟨rfl, rfl, rfl, Nat.le_refl _, fun _ _ _ => rfl, fun _ _ => rfl⟩ hAll (by omega) (by omega) z1 (by rw [List.length_append] at z2; simp at z2; omega)
            obtain ⟨⟨k1, k2, k3, k4, k5⟩, hP3⟩ := hD
            have HP3 := Lib.hid hP3
            have g0 : ((c : Int) == 0) = false := beq_eq_false_iff_ne.2 (by omega)
            rw [hbf] at e1
            obtain ⟨yl, hyl⟩ : ∃ yl, Y.length = yl := ⟨_, rfl⟩
            obtain rfl : N = yl + 1 := by omega
            rw [hyl] at HP3 k3 k4 k5
            clear hP hP3 hbc z1 z2 hAll hf5 hNl hYl hbf hc0 hyl
            go_wp2_with fail
            go_roundg (256 - (c + 1))
            case rel => exact ⟨c + 1, yl + 1, _, _, _, cp, by omega, rfl, by go_num, rfl, (by simpa [World.setCell] using hBr), HP3⟩
            case measure => omega
        · obtain rfl : c = 256 := by omega
          obtain ⟨Y0, hY0⟩ : ∃ Y0 : List (Nat × Nat × Value), Y0 = Z.map fun z => (z.1, z.2, Value.slice none 0 0) := ⟨_, rfl⟩
          have H30 : Hid (P3 b C wr w B N Z Y0 (fun _ => []) κ (.slice ad N cp)) := by
            have h := hP.out
            refine ⟨h.kC, h.lo, ?_, ?_, ?_, ?_, h.of.congr fun j hj => by rw [if_pos hj], h.below⟩
            · rw [hY0, List.length_map]; exact h.len
            · rw [hY0, List.map_map]
              show List.map (fun z => (z.1, z.2)) Z = Z
              simp
            · rw [hY0, strV_none]; exact h.all
            · intro i hi
              have : (Y0[i]'hi).2.2 = .slice none 0 0 := by simp only [hY0, List.getElem_map]
              rw [this]
              exact RowC.nil _ _ _ _ _
          have hSg := Lib.hid hP.out.segs
          have hN256 : N ≤ 256 := hP.out.le
          have hBr2 : B ≤ wr.heap.size := hBr
          clear hP hY0
          go_wp2_with fail
          have H31 : Hid (P3 b C wr w B N Z Y0 (Au.tos b (L.take 0).flatten) κ (.slice ad N cp)) := by rw [List.take_zero]; exact H30
          clear H30
          go_loopg [67] i (fun gg vi wx => ∃ (x : Nat) (Y : List (Nat × Nat × Value)) (κ : Nat → Nat), x ≤ i ∧ gg = i - x ∧ vi = .int .i64 x ∧ B ≤ wx.heap.size ∧ Hid (P3 b C wx w B N Z Y (Au.tos b (L.take x).flatten) κ (.slice ad N cp)))
          case atStart => exact ⟨0, _, _, Nat.zero_le _, rfl, rfl, hBr2, H31⟩
          case round =>
            clear H31 hBr2
            obtain ⟨x, Y, κ, hx, rfl, rfl, hBr2, hP⟩ := hrel
            by_cases hxi : x < i
            · have j1 : (x : Int) < (i : Int) := by omega
              have hil : x < L.length := by rw [← HN.out]; exact hxi
              obtain ⟨g, o, rfl, hg, _, hcl⟩ := HC.out (by omega)
              obtain ⟨va, c1, hva⟩ := hcl x hil
              have e1 := (hP.out.below.cell (p := ⟨g, o + x, none⟩) (by rw [← hB]; exact hg)).trans c1
              have hAL : Hid (∀ a ∈ L[x], Au.byteArc a ∧ (a.lo.toNat = 0 ∨ b a.lo.toNat = true) ∧ b (a.hi.toNat + 1) = true) := fun a ha => by
                have h1 := HLA.out _ (List.getElem_mem hil) a ha
                have h2 : a ∈ L.flatten := List.mem_flatten.2 ⟨_, List.getElem_mem hil, ha⟩
                rw [HBM.out]
                exact ⟨h1, .inr (Au.marks_lo h2 h1.1), Au.marks_hi h2 (by have := h1.1; have := h1.2.1; omega)⟩
              have hnx : Hid ((L.take (x + 1)).flatten = (L.take x).flatten ++ L[x]) := by
                show _ = _
                rw [List.take_succ_eq_append_getElem hil, List.flatten_append]
                simp
              have hAn : (L.take x).flatten.length + L[x].length ≤ 1099511627776 := by
                have h1 : ((L.take (x + 1)).flatten).length ≤ L.flatten.length := by
                  have h2 : L.flatten = (L.take (x + 1)).flatten ++ (L.drop (x + 1)).flatten := by rw [← List.flatten_append, List.take_append_drop]
                  rw [h2, List.length_append]
                  omega
                rw [hnx.out, List.length_append] at h1
                omega
              generalize L[x] = l at *
              generalize (L.take x).flatten = A at *
              obtain ⟨a2, cap2, rfl, hd1, hd2, hd⟩ := hva
              obtain ⟨m, hm⟩ : ∃ m, m = l.length := ⟨_, rfl⟩
              have hm2 : m ≤ 9223372036854775807 := by omega
              have HD := Lib.hid hd
              have HM := Lib.hid hm
              rw [← hm] at e1
              have hP1 : Hid (P3 b C wr w B N Z Y (Au.tos b (A ++ l.take 0)) κ (.slice ad N cp)) := by rw [List.take_zero, List.append_nil]; exact hP
              clear c1 hcl hd hd1 hm hP
              go_wp2_with fail
              go_loopg [73] m (fun gg vk wx => ∃ (k : Nat) (Y : List (Nat × Nat × Value)) (κ : Nat → Nat), k ≤ m ∧ gg = m - k ∧ vk = .int .i64 k ∧ B ≤ wx.heap.size ∧ Hid (P3 b C wx w B N Z Y (Au.tos b (A ++ l.take k)) κ (.slice ad N cp)))
              case atStart => exact ⟨0, _, _, Nat.zero_le _, rfl, rfl, hBr2, hP1⟩
              case round =>
                clear hP1 hBr2 e1
                obtain ⟨k, Y, κ, hk, rfl, rfl, hBr2, hP⟩ := hrel
                by_cases hkm : k < m
                · have kl : k < l.length := by rw [← HM.out]; exact hkm
                  have j2 : (k : Int) < (m : Int) := by omega
                  obtain ⟨g2, o2, rfl, hg2, _, hcl2⟩ := HD.out (by omega)
                  obtain ⟨d1, d2, d3⟩ := hcl2 k kl
                  have e1 := (hP.out.below.cell (p := ⟨g2, o2 + k * 3, none⟩) (by rw [← hB]; exact hg2)).trans d1
                  have e2 := (hP.out.below.cell (p := ⟨g2, o2 + k * 3 + 1, none⟩) (by rw [← hB]; exact hg2)).trans d2
                  have e3 := (hP.out.below.cell (p := ⟨g2, o2 + k * 3 + 2, none⟩) (by rw [← hB]; exact hg2)).trans d3
                  obtain ⟨⟨y1, y2, y3⟩, y4, y5⟩ := hAL.out _ (List.getElem_mem kl)
                  have hst : Hid (∀ x, Au.tos b (A ++ l.take (k + 1)) x = if Au.cnt b l[k].lo.toNat ≤ x ∧ x ≤ Au.cnt b l[k].hi.toNat then Au.tos b (A ++ l.take k) x ++ [l[k].to] else Au.tos b (A ++ l.take k) x) := fun x => by
                    rw [List.take_succ_eq_append_getElem kl, ← List.append_assoc, Au.tos_snoc]
                  have hlen : ∀ x, (Au.tos b (A ++ l.take k) x).length ≤ 1099511627776 := fun x => by
                    have := Au.tos_len b (A ++ l.take k) x
                    rw [List.length_append] at this
                    have := List.length_take_le k l
                    omega
                  clear d1 d2 d3 hcl2
                  generalize l[k] = ar at *
                  obtain ⟨lo, hi', to⟩ := ar
                  dsimp only at e1 e2 e3 hst y1 y2 y3
                  obtain ⟨p, rfl⟩ : ∃ p : Nat, lo = (p : Int) := ⟨lo.toNat, by omega⟩
                  obtain ⟨q, rfl⟩ : ∃ q : Nat, hi' = (q : Int) := ⟨hi'.toNat, by omega⟩
                  simp only [Int.toNat_natCast] at hst
                  have q255 : q < 256 := by omega
                  have p255 : p < 256 := by omega
                  have hpq : Au.cnt b p ≤ Au.cnt b q := Au.cnt_le b (by omega)
                  have hqN : Au.cnt b q < N := by
                    have h1 := hSg.out.len
                    rw [if_neg (by omega)] at h1
                    have h2 := Au.cnt_le b (show q ≤ 256 - 1 by omega)
                    omega
                  obtain ⟨D, hDD⟩ : ∃ D, wr.heap.size = D := ⟨_, rfl⟩
                  have sA : Step κ 9 wr (wr.alloc (.cells #[.int .i64 (p : Int), .int .i64 (q : Int), .int .i64 to] 71)) (paint κ wr.heap.size 9) := Step.of_alloc _ _
                  have hP2 := hP.out.step sA (by decide) (by decide) (by decide) (by decide) hBr2
                  have hkD : paint κ wr.heap.size 9 D = 9 := paint_new _ _ _ _ (by omega)
                  generalize paint κ wr.heap.size 9 = κ1 at *
                  have hDb : Hid ((wr.alloc (.cells #[.int .i64 (p : Int), .int .i64 (q : Int), .int .i64 to] 71)).heap[D]? = some (.cells #[.int .i64 (p : Int), .int .i64 (q : Int), .int .i64 to] 71 (0, 0))) := by rw [← hDD]; exact Go.Deep.blk_alloc_new _ _
                  have hBA : B ≤ (wr.alloc (.cells #[.int .i64 (p : Int), .int .i64 (q : Int), .int .i64 to] 71)).heap.size := by simp; omega
                  have f1 := hP2.of.cell (i := p) p255
                  have HP2 := Lib.hid hP2
                  obtain ⟨cq, hcq⟩ : ∃ cq, Au.cnt b q = cq := ⟨_, rfl⟩
                  obtain ⟨cpp, hcpp⟩ : ∃ cpp, Au.cnt b p = cpp := ⟨_, rfl⟩
                  have HCQ := Lib.hid hcq
                  rw [hcq] at hqN
                  rw [hcpp] at f1
                  have hst2 : Hid (∀ x, Au.tos b (A ++ l.take (k + 1)) x = if cpp ≤ x ∧ x ≤ cq then Au.tos b (A ++ l.take k) x ++ [to] else Au.tos b (A ++ l.take k) x) := fun x => by subst hcq; subst hcpp; exact hst.out x
                  rw [hcq, hcpp] at hpq
                  clear hP hP2 sA y4 y5 hst hcq hcpp
                  obtain ⟨T0, hT0⟩ : ∃ T0, T0 = Au.tos b (A ++ l.take k) := ⟨_, rfl⟩
                  rw [← hT0] at hlen HP2 hst2
                  have HP3 : Hid (P3 b C (wr.alloc (.cells #[.int .i64 (p : Int), .int .i64 (q : Int), .int .i64 to] 71)) w B N Z Y (fun i => if cpp ≤ i ∧ i < cpp then T0 i ++ [to] else T0 i) κ1 (.slice ad N cp)) := by
                    have : (fun i => if cpp ≤ i ∧ i < cpp then T0 i ++ [to] else T0 i) = T0 := funext fun i => if_neg (by omega)
                    rw [this]
                    exact HP2
                  clear HP2 hT0
                  obtain ⟨aa, cpa, hva, _, _, hfa⟩ := HP3.out.all.form
                  simp only [Value.slice.injEq] at hva
                  obtain ⟨rfl, _, rfl⟩ := hva
                  obtain ⟨ga, rfl, _⟩ := hfa (by omega)
                  have c9 : (wr.alloc (.cells #[.int .i64 (p : Int), .int .i64 (q : Int), .int .i64 to] 71)).cell? ⟨D, 0, none⟩ = some (.int .i64 (p : Int)) := by have h := hDb.out; simp [World.cell?, h]
                  clear hfa
                  go_wp2_with fail
                  generalize wr.alloc (.cells #[.int .i64 (p : Int), .int .i64 (q : Int), .int .i64 to] 71) = wa at *
                  obtain ⟨i1, hi1, hy0, hy1, hy2⟩ := info_parts Tryz.infoN
                  go_loopg [15] (cq + 1 - cpp) (fun gg vj wx => ∃ (j : Nat) (Y : List (Nat × Nat × Value)) (κ : Nat → Nat), cpp ≤ j ∧ j ≤ cq + 1 ∧ gg = cq + 1 - j ∧ vj = .int .i64 j ∧ B ≤ wx.heap.size ∧ κ D = 9 ∧ Hid (wx.heap[D]? = some (.cells #[.int .i64 (p : Int), .int .i64 (q : Int), .int .i64 to] 71 (0, 0))) ∧ Hid (P3 b C wx w B N Z Y (fun i => if cpp ≤ i ∧ i < j then T0 i ++ [to] else T0 i) κ (.slice (some ⟨ga, 0, none⟩) N cp)))
                  case atStart => exact ⟨cpp, _, _, Nat.le_refl _, by omega, rfl, rfl, hBA, hkD, hDb, HP3⟩
                  case round =>
                    clear HP3 hkD hDb f1 c9 hBA
                    obtain ⟨j, Y, κ, hj1, hj2, rfl, rfl, hBA, hkD, hDb, hP⟩ := hrel
                    have hof := hP.out.of.cell (i := q) q255
                    rw [HCQ.out] at hof
                    have a1 : wr.cell? ⟨D, 1, none⟩ = some (.int .i64 (q : Int)) := by have h := hDb.out; simp [World.cell?, h]
                    have a2 : wr.cell? ⟨D, 2, none⟩ = some (.int .i64 to) := by have h := hDb.out; simp [World.cell?, h]
                    by_cases hjq : j ≤ cq
                    · have j3 : (j : Int) ≤ (cq : Int) := by omega
                      have j4 : (j : Int) < (N : Int) := by omega
                      have hjY : j < Y.length := by rw [hP.out.len]; omega
                      obtain ⟨x1, x2, _, _, x3, x4⟩ := hP.out.all.at
                      obtain ⟨_, _, y3'⟩ := strV_at Y j hjY
                      have r1 := x4 _ _ y3'
                      have hTj : (if cpp ≤ j ∧ j < j then T0 j ++ [to] else T0 j) = T0 j := if_neg (by omega)
                      have hrow := hP.out.to j hjY
                      rw [hTj] at hrow
                      have HROW := Lib.hid hrow
                      have hlj := hlen j
                      have hPU : Hid (∀ g cp' w3, RowC (paint κ wr.heap.size (10 + j)) (10 + j) w3 3 1 (.slice (some ⟨g, 0, none⟩) ((T0 j).length + 1) cp') ((T0 j).length + 1) (intsV (T0 j) ++ [.int .i64 to]) → Step κ (10 + j) wr w3 (paint κ wr.heap.size (10 + j)) → _) := fun g cp' w3 k1 k2 => hP.out.push (n := (T0 j).length + 1) (to := to) hBA hjY (by simp only [hTj]; exact k1) (by simp only [hTj]) k2
                      simp only [hTj] at hPU
                      have hDK : Hid (∀ (κ' : Nat → Nat) w5, Step κ (10 + j) wr w5 κ' → ∀ ga, κ' ga = 3 → ∀ (x : Nat) u, w5.cell? ⟨D, 2, none⟩ = some (.int .i64 to) ∧ κ' D = 9 ∧ (w5.setCell ⟨ga, x, none⟩ u).heap[D]? = some (.cells #[.int .i64 (p : Int), .int .i64 (q : Int), .int .i64 to] 71 (0, 0)) ∧ B ≤ (w5.setCell ⟨ga, x, none⟩ u).heap.size) := fun κ' w5 hs ga hga x u => by
                        have hDl : D < wr.heap.size := (Array.getElem?_eq_some_iff.1 hDb.out).1
                        have h5 := (hs.block D hDl (by rw [hkD]; omega)).trans hDb.out
                        have hkD' : κ' D = 9 := by rw [hs.col D hDl, hkD]
                        refine ⟨by simp [World.cell?, h5], hkD', ?_, ?_⟩
                        · rw [heap_other _ _ _ _ _ (fun e => by rw [e, hga] at hkD'; exact absurd hkD' (by decide))]
                          exact h5
                        · simp only [World.setCell]
                          have := hs.size
                          simp
                          omega
                      have hst3 : Hid (∀ wz Yz κz, P3 b C wz w B N Z Yz (fun i => if i = j then T0 j ++ [to] else if cpp ≤ i ∧ i < j then T0 i ++ [to] else T0 i) κz (.slice (some ⟨ga, 0, none⟩) N cp) → P3 b C wz w B N Z Yz (fun i => if cpp ≤ i ∧ i < j + 1 then T0 i ++ [to] else T0 i) κz (.slice (some ⟨ga, 0, none⟩) N cp)) := fun wz Yz κz h => by
                        have : (fun i => if i = j then T0 j ++ [to] else if cpp ≤ i ∧ i < j then T0 i ++ [to] else T0 i) = (fun i => if cpp ≤ i ∧ i < j + 1 then T0 i ++ [to] else T0 i) := funext fun i => by
                          by_cases e : i = j
                          · subst e
                            rw [if_pos rfl, if_pos (by omega)]
                          · rw [if_neg e]
                            by_cases h2 : cpp ≤ i ∧ i < j
                            · rw [if_pos h2, if_pos (by omega)]
                            · rw [if_neg h2, if_neg (by omega)]
                        rw [← this]
                        exact h
                      have hBE : Hid (Below wr.heap.size wr ((wr.alloc (.cells #[.int .i64 to] 3)).drew)) := ((Below.refl _ _).alloc (Nat.le_refl _) _).drew
                      have hnw : Hid (∀ (x : Nat) (u : Value), [Value.int .i64 to][x]? = some u → ((wr.alloc (.cells #[.int .i64 to] 3)).drew).cell? ((⟨wr.heap.size, 0, none⟩ : Addr).add x) = some u) := fun x u h => new_cells wr [.int .i64 to] _ x u h
                      clear hP hrow y3' x4 x3 hTj
                      generalize Y[j].2.2 = vj at *
                      go_wp2_with fail
                      go_region_law ((refine step_pushC rfl _ _ 22 3 (by rfl) i1 _ 1 8 Tryz.underlying22 hi1 hy0 hy1 hy2 rfl (by decide) κ (10 + j) _ (T0 j).length (intsV (T0 j)) (by rfl) HROW.out hBE.out [.int .i64 to] rfl (one_of rfl) ⟨wr.heap.size, 0, none⟩ hnw.out (by rfl) (by omega) (by omega) ?_; intro g5 cp5 w5 hr5 hs5; obtain ⟨⟨k1, k2⟩, hP5, k4⟩ := hPU.out g5 cp5 w5 hr5 hs5; obtain ⟨k3, hk5, hD5, hB5⟩ := hDK.out _ _ hs5 ga k4 (j * 3 + 2) (.slice (some ⟨g5, 0, none⟩) ((T0 j).length + 1) cp5); have HP5 := Lib.hid (hst3.out _ _ _ hP5); have HD5 := Lib.hid hD5; clear hr5 hs5 hP5 hD5))
                      all_goals
                        go_wp2_with fail
                        go_roundg (cq + 1 - (j + 1))
                        case rel => exact ⟨j + 1, _, _, by omega, by omega, rfl, by go_num, hB5, hk5, HD5, HP5⟩
                        case measure => omega
                    · have hjq' : j = cq + 1 := by omega
                      subst hjq'
                      have j3 : ¬ ((cq + 1 : Nat) : Int) ≤ (cq : Int) := by omega
                      have hP6 : Hid (P3 b C wr w B N Z Y (Au.tos b (A ++ l.take (k + 1))) κ (.slice (some ⟨ga, 0, none⟩) N cp)) := by
                        have : (fun i => if cpp ≤ i ∧ i < cq + 1 then T0 i ++ [to] else T0 i) = Au.tos b (A ++ l.take (k + 1)) := funext fun i => by
                          rw [hst2.out]
                          by_cases h : cpp ≤ i ∧ i ≤ cq
                          · rw [if_pos h, if_pos (by omega)]
                          · rw [if_neg h, if_neg (by omega)]
                        rw [← this]
                        exact hP
                      clear hP
                      go_wp2_with fail
                      go_roundg (m - (k + 1))
                      case rel => exact ⟨k + 1, _, _, by omega, rfl, by go_num, hBA, hP6⟩
                      case measure => omega
                · obtain rfl : k = m := by omega
                  have hR2 : Hid (P3 b C wr w B N Z Y (Au.tos b (L.take (x + 1)).flatten) κ (.slice ad N cp)) := by
                    have h := hP.out
                    rw [List.take_of_length_le (by rw [← HM.out]; exact Nat.le_refl _), ← hnx.out] at h
                    exact h
                  clear hP
                  go_wp2_with fail
                  go_roundg (i - (x + 1))
                  case rel => exact ⟨x + 1, _, _, by omega, rfl, by go_num, hBr2, hR2⟩
                  case measure => omega
            · obtain rfl : x = i := by omega
              have hP2 := hP.out
              rw [List.take_of_length_le (by rw [← HN.out]; exact Nat.le_refl _)] at hP2
              obtain ⟨aa, cpa, hva, _, _, hfa⟩ := hP2.all.form
              simp only [Value.slice.injEq] at hva
              obtain ⟨rfl, _, rfl⟩ := hva
              have hN0 : 0 < N := by
                have h1 := hSg.out.len
                rw [if_neg (by omega)] at h1
                omega
              obtain ⟨ga, rfl, _⟩ := hfa hN0
              have hYt : ∀ y ∈ Y, isTo y.2.2 := fun y hy => by
                obtain ⟨j, hj, rfl⟩ := List.getElem_of_mem hy
                obtain ⟨a7, c7, h7, h8, h9, _⟩ := (hP2.to j hj).form
                exact ⟨a7, _, c7, h7, by omega⟩
              have HDF := Lib.hid (deleteFunc_any κ wr ga N cp Y hP2.len hP2.all hYt)
              rw [HBM.out] at hP2 hSg
              have HF : Hid (∀ e w', Deleted wr ga cp Y e w' → ∃ u S, e = .returned u ∧ Au.Cut L.flatten 0 S ∧ StrS (fun g => w.heap.size ≤ g) w' u S ∧ Below w.heap.size w w') := fun e w' hd => hP2.done hSg.out HLA.out hB.symm hBr2 hd
              clear hP hP2 hfa hYt
              go_wp2_with fail
              refine HDF.out.mono ?_
              intro e w8 hd
              obtain ⟨u8, S8, rfl, h81, h82, h83⟩ := HF.out e w8 hd
              have H81 := Lib.hid h81
              have H82 := Lib.hid h82
              have H83 := Lib.hid h83
              clear hd h81 h82 h83
              go_wp2_with fail
              go_ret
              exact ⟨_, S8, rfl, H81.out, by first | exact H82.out | (rw [← hB]; exact H82.out), by first | exact H83.out | (rw [← hB]; exact H83.out)⟩
end Go.Proofs.YtmhchajdeneabaaGreatDoor

/-
  '&', '|' and '&^' by a number whose low bits are set alone, of an int that is not negative; no program is named here.
-/
namespace Go.Proofs.YtmhchajdeneabaaGreatDoor.Sp

theorem nat_or_mask (x k : Nat) : x ||| (2 ^ k - 1) = x - x % 2 ^ k + (2 ^ k - 1) := by
  have hp : 0 < 2 ^ k := Nat.two_pow_pos k
  have hm : x % 2 ^ k < 2 ^ k := Nat.mod_lt _ hp
  have hd : 2 ^ k * (x / 2 ^ k) + x % 2 ^ k = x := Nat.div_add_mod x (2 ^ k)
  have e1 : x - x % 2 ^ k + (2 ^ k - 1) = 2 ^ k * (x / 2 ^ k) + (2 ^ k - 1) := by omega
  rw [e1]
  apply Nat.eq_of_testBit_eq
  intro i
  rw [Nat.testBit_two_pow_mul_add _ (by omega), Nat.testBit_or, Nat.testBit_two_pow_sub_one]
  by_cases h : i < k
  · simp [h]
  · simp only [h, decide_false, Bool.or_false, if_false]
    rw [Nat.testBit_div_two_pow, Nat.sub_add_cancel (by omega)]
theorem nat_clear (x k : Nat) (hx : x < 2 ^ 64) (_hk : k ≤ 64) : x &&& (2 ^ 64 - 1 - (2 ^ k - 1)) = x - x % 2 ^ k := by
  have hp : 0 < 2 ^ k := Nat.two_pow_pos k
  have hd : 2 ^ k * (x / 2 ^ k) + x % 2 ^ k = x := Nat.div_add_mod x (2 ^ k)
  have hk2 : 2 ^ k ≤ 2 ^ 64 := Nat.pow_le_pow_right (by omega) _hk
  have e1 : x - x % 2 ^ k = 2 ^ k * (x / 2 ^ k) + 0 := by omega
  rw [e1]
  apply Nat.eq_of_testBit_eq
  intro i
  have e2 : 2 ^ 64 - 1 - (2 ^ k - 1) = 2 ^ 64 - ((2 ^ k - 1) + 1) := by omega
  rw [Nat.testBit_two_pow_mul_add _ (by omega), Nat.testBit_and, e2, Nat.testBit_two_pow_sub_succ (by omega), Nat.testBit_two_pow_sub_one, Nat.zero_testBit]
  by_cases h : i < k
  · simp [h]
  · simp only [h, decide_false, Bool.not_false, Bool.and_true, if_false]
    rw [Nat.testBit_div_two_pow, Nat.sub_add_cancel (by omega)]
    by_cases h6 : i < 64
    · simp [h6]
    · have : x.testBit i = false := Nat.testBit_lt_two_pow (Nat.lt_of_lt_of_le hx (Nat.pow_le_pow_right (by omega) (by omega)))
      simp [this]
theorem wrap_small (n : Nat) (h : n < 9223372036854775808) : IntKind.i64.wrap (n : Int) = (n : Int) := by
  rw [IntKind.wrap_i64]
  omega
theorem ofInt_nat (n : Nat) (h : n < 2 ^ 64) : (BitVec.ofInt 64 (n : Int)).toNat = n := by
  rw [BitVec.ofInt_natCast, BitVec.toNat_ofNat]
  exact Nat.mod_eq_of_lt h
theorem and_nat (x k : Nat) (hx : x < 2 ^ 40) (hk : k ≤ 40) : bits .and .i64 (x : Int) ((2 ^ k - 1 : Nat) : Int) = ((x % 2 ^ k : Nat) : Int) := by
  have hk2 : 2 ^ k ≤ 2 ^ 40 := Nat.pow_le_pow_right (by omega) hk
  show IntKind.i64.wrap ((BitVec.ofInt 64 (x : Int) &&& BitVec.ofInt 64 ((2 ^ k - 1 : Nat) : Int)).toNat : Int) = _
  rw [BitVec.toNat_and, ofInt_nat x (by omega), ofInt_nat _ (by omega), Nat.and_two_pow_sub_one_eq_mod]
  exact wrap_small _ (Nat.lt_of_le_of_lt (Nat.mod_le _ _) (by omega))
theorem or_nat (x k : Nat) (hx : x < 2 ^ 40) (hk : k ≤ 40) : bits .or .i64 (x : Int) ((2 ^ k - 1 : Nat) : Int) = ((x - x % 2 ^ k + (2 ^ k - 1) : Nat) : Int) := by
  have hk2 : 2 ^ k ≤ 2 ^ 40 := Nat.pow_le_pow_right (by omega) hk
  show IntKind.i64.wrap ((BitVec.ofInt 64 (x : Int) ||| BitVec.ofInt 64 ((2 ^ k - 1 : Nat) : Int)).toNat : Int) = _
  rw [BitVec.toNat_or, ofInt_nat x (by omega), ofInt_nat _ (by omega), nat_or_mask]
  exact wrap_small _ (by omega)
theorem clear_nat (x k : Nat) (hx : x < 2 ^ 40) (hk : k ≤ 40) : bits .andNot .i64 (x : Int) ((2 ^ k - 1 : Nat) : Int) = ((x - x % 2 ^ k : Nat) : Int) := by
  have hk2 : 2 ^ k ≤ 2 ^ 40 := Nat.pow_le_pow_right (by omega) hk
  show IntKind.i64.wrap ((BitVec.ofInt 64 (x : Int) &&& ~~~ BitVec.ofInt 64 ((2 ^ k - 1 : Nat) : Int)).toNat : Int) = _
  rw [BitVec.toNat_and, BitVec.toNat_not, ofInt_nat x (by omega), ofInt_nat _ (by omega), nat_clear x k (by omega) (by omega)]
  exact wrap_small _ (by omega)
theorem and_int (x : Int) (k m : Nat) (hm : m = 2 ^ k) (h0 : 0 ≤ x) (h1 : x < 1099511627776) (hk : k ≤ 40) : bits .and .i64 x ((m : Int) - 1) = x % m := by
  obtain ⟨n, rfl⟩ : ∃ n : Nat, x = n := ⟨x.toNat, by omega⟩
  have hp : 0 < 2 ^ k := Nat.two_pow_pos k
  have := and_nat n k (by omega) hk
  rw [show ((m : Int) - 1) = ((2 ^ k - 1 : Nat) : Int) by omega, this, hm]
  simp
theorem or_int (x : Int) (k m : Nat) (hm : m = 2 ^ k) (h0 : 0 ≤ x) (h1 : x < 1099511627776) (hk : k ≤ 40) : bits .or .i64 x ((m : Int) - 1) = x - x % m + ((m : Int) - 1) := by
  obtain ⟨n, rfl⟩ : ∃ n : Nat, x = n := ⟨x.toNat, by omega⟩
  have hp : 0 < 2 ^ k := Nat.two_pow_pos k
  have hl := Nat.mod_le n (2 ^ k)
  have := or_nat n k (by omega) hk
  rw [show ((m : Int) - 1) = ((2 ^ k - 1 : Nat) : Int) by omega, this, hm]
  rw [Int.natCast_add, Int.natCast_sub hl, Int.natCast_emod]
theorem clear_int (x : Int) (k m : Nat) (hm : m = 2 ^ k) (h0 : 0 ≤ x) (h1 : x < 1099511627776) (hk : k ≤ 40) : bits .andNot .i64 x ((m : Int) - 1) = x - x % m := by
  obtain ⟨n, rfl⟩ : ∃ n : Nat, x = n := ⟨x.toNat, by omega⟩
  have hp : 0 < 2 ^ k := Nat.two_pow_pos k
  have hl := Nat.mod_le n (2 ^ k)
  have := clear_nat n k (by omega) hk
  rw [show ((m : Int) - 1) = ((2 ^ k - 1 : Nat) : Int) by omega, this, hm]
  rw [Int.natCast_sub hl, Int.natCast_emod]
end Go.Proofs.YtmhchajdeneabaaGreatDoor.Sp

/-
  What the walks share: slices of numbers and of bytes in memory, wherever they lie or the call's own.
-/
namespace Go.Proofs.YtmhchajdeneabaaGreatDoor
open Go.RowKit

theorem Tryz.infoB5 : (Tryz.prog.info? 5).map (fun i => (i.zero, i.size, i.bytes)) = some (some (.int .u8 0), 1, 1) := by kernel_rfl

theorem Tryz.infoI : (Tryz.prog.info? 3).map (fun i => (i.zero, i.size, i.bytes)) = some (some (.int .i64 0), 1, 8) := by kernel_rfl
theorem mk_of5 {s : ByteArray} {l : List UInt8} (h : s.data.toList = l) : s = ⟨l.toArray⟩ := by
  subst h
  cases s
  simp
theorem cut_mk5 (s : ByteArray) (y n : Nat) : s.extract y (y + n) = ⟨((s.data.toList.drop y).take n).toArray⟩ := by
  apply mk_of5
  rw [Lib.extract_data, Nat.add_sub_cancel_left]

/-- Bytes as cells. -/
def bytesV5 (l : List UInt8) : List Value := l.map (fun c => .int .u8 (c.toNat : Int))
theorem bytesV_length5 (l : List UInt8) : (bytesV5 l).length = l.length := by simp [bytesV5]

/-- The slice v is the call's own, from block B on, and holds these bytes. -/
def OwnB5 (w : World) (B : Nat) (v : Value) (l : List UInt8) : Prop := w.ownsRow B 5 1 v l.length (bytesV5 l)

theorem own_conv5 {w : World} {B : Nat} {v : Value} {l : List UInt8} (h : OwnB5 w B v l) :
    (convert 68 9 v).run Tryz.prog w = .ok (.string ⟨l.toArray⟩) w := by
  have hown : w.ownsRow B 5 1 v l.length (bytesV5 l) := h
  rcases h.2 with ⟨rfl, h0⟩ | ⟨g, cap, cur, rfl, hg, hh, hnc, hcp, hcs, htake⟩
  · obtain rfl : l = [] := List.length_eq_zero_iff.1 h0
    rw [run_convert_bytes_string w 68 9 5 none 0 0 Tryz.underlying68 Tryz.underlying5 Tryz.underlying9]
    simp [Conv.bytesToString]
    rfl
  · have hcells : ∀ j (hj : j < l.length), w.cell? ((⟨g, 0, none⟩ : Addr).add j) = some (.int .u8 (l[j].toNat : Int)) := fun j hj => by
      rw [Addr.add_lit, Nat.zero_add, hown.cellAt j (by omega)]
      simp [bytesV5, hj]
    exact run_convert_bytes_back (P := Tryz.prog) w 68 9 5 ⟨g, 0, none⟩ cap l Tryz.underlying68 Tryz.underlying5 Tryz.underlying9 hcells

theorem drop_cons5 (s : ByteArray) (k : Nat) (h : k < s.size) : s.data.toList.drop k = s[k] :: s.data.toList.drop (k + 1) := by
  have hl : k < s.data.toList.length := by simpa using h
  rw [List.drop_eq_getElem_cons hl]
  rfl
theorem drop_all5 (s : ByteArray) (k : Nat) (h : s.size ≤ k) : s.data.toList.drop k = [] := by
  apply List.drop_of_length_le
  simpa using h
/-- Numbers as cells. -/
def intsV5 (l : List Int) : List Value := l.map (fun c => .int .i64 c)
theorem intsV_snoc5 (l : List Int) (c : Int) : intsV5 l ++ [.int .i64 c] = intsV5 (l ++ [c]) := by simp [intsV5]
/-- The slice v is the call's own, from block B on, and holds these numbers. -/
def OwnI (w : World) (B : Nat) (v : Value) (l : List Int) : Prop := w.ownsRow B 3 1 v l.length (intsV5 l)
/-- Behind an append of one number. -/
theorem ownI_push {w wr w1 : World} {B : Nat} {v v' : Value} {l : List Int} {c : Int} {o : Obj} (hB : B ≤ wr.heap.size) (h : OwnI wr B v l) (hb : Below B w wr)
    (h1 : w1.ownsRow B 3 1 v' (l.length + 1) (intsV5 l ++ [.int .i64 c])) (hg : (wr.alloc o).grownBy w1 v.ownBlock) :
    OwnI w1 B v' (l ++ [c]) ∧ Below B w w1 := by
  have hown : wr.ownsRow B 3 1 v l.length (intsV5 l) := h
  refine ⟨?_, (hb.alloc hB o).grown hg (by simp; omega) (fun j hj => (hown.lt j hj).1)⟩
  unfold OwnI
  rw [intsV_snoc5] at h1
  simpa using h1
/-- An own slice, its cells told one by one. -/
theorem ownI_cells {w : World} {B : Nat} {v : Value} {l : List Int} (h : OwnI w B v l) : ∃ a cap, v = .slice a l.length cap ∧ (0 < l.length → ∃ g, a = some ⟨g, 0, none⟩ ∧ g < w.heap.size ∧ ∀ j (hj : j < l.length), w.cell? ⟨g, j, none⟩ = some (.int .i64 l[j])) := by
  have hown : w.ownsRow B 3 1 v l.length (intsV5 l) := h
  rcases h.2 with ⟨rfl, h0⟩ | ⟨g, cap, cur, rfl, hg, hh, hnc, hcp, hcs, htake⟩
  · exact ⟨none, 0, by rw [h0], fun h => by omega⟩
  · refine ⟨_, _, rfl, fun h => ⟨g, rfl, (hown.lt g rfl).2, fun j hj => ?_⟩⟩
    rw [hown.cellAt j (by omega)]
    simp [intsV5, hj]

/-- The value v is a slice of these numbers. -/
def IntS (w : World) (v : Value) (xs : List Int) : Prop :=
  ∃ a cap, v = .slice a xs.length cap ∧ xs.length ≤ cap ∧ cap ≤ 9223372036854775807 ∧ (0 < xs.length → ∃ g o, a = some ⟨g, o, none⟩ ∧ g < w.heap.size ∧ ∀ j (_ : j < xs.length), w.cell? ⟨g, o + j, none⟩ = some (.int .i64 xs[j]))
theorem IntS.below {w w' : World} {B : Nat} {v : Value} {xs : List Int} (h : IntS w v xs) (hb : Below B w w') (hB : w.heap.size ≤ B) : IntS w' v xs := by
  obtain ⟨a, cap, h1, h2, h3, h4⟩ := h
  refine ⟨a, cap, h1, h2, h3, fun h0 => ?_⟩
  obtain ⟨g, o, h5, h6, h7⟩ := h4 h0
  exact ⟨g, o, h5, Nat.lt_of_lt_of_le h6 hb.size, fun j hj => (hb.cell (p := ⟨g, o + j, none⟩) (Nat.lt_of_lt_of_le h6 hB)).trans (h7 j hj)⟩
theorem take_eq_snoc {xs ys : List Int} {k : Nat} (h1 : k < xs.length) (h2 : k < ys.length) (h : xs.take k = ys.take k) (e : xs[k] = ys[k]) : xs.take (k + 1) = ys.take (k + 1) := by
  rw [List.take_succ_eq_append_getElem h1, List.take_succ_eq_append_getElem h2, h, e]

set_option maxRecDepth 100000 in
set_option maxHeartbeats 1000000 in
/-- Whether two lists of numbers are alike. -/
theorem numbers_any (w : World) (u v : Value) (xs ys : List Int) (hu : IntS w u xs) (hv : IntS w v ys) (hx : xs.length ≤ 9223372036854775807) (_hy : ys.length ≤ 9223372036854775807) :
    Calls Tryz.prog 9 #[u, v] w fun e' w' => e' = .returned (.bool (decide (xs = ys))) ∧ Below w.heap.size w w' := by
  obtain ⟨a, cap, rfl, _, _, hu⟩ := hu
  obtain ⟨a', cap', rfl, _, _, hv⟩ := hv
  have HU := Lib.hid hu
  have HV := Lib.hid hv
  clear hu hv
  by_cases hl : xs.length = ys.length
  · obtain ⟨n, hn⟩ : ∃ n, n = xs.length := ⟨_, rfl⟩
    have hn2 : ys.length = n := by omega
    have HN := Lib.hid hn
    have HN2 := Lib.hid hn2
    rw [← hn] at hx ⊢
    rw [hn2]
    clear hl hn hn2
    go_enter Tryz.func9, Tryz.ntmps9
    go_wp2_with fail
    go_loopg [5] n (fun g i wx => ∃ k : Nat, k ≤ n ∧ g = n - k ∧ i = .int .i64 k ∧ Hid (xs.take k = ys.take k) ∧ Below w.heap.size w wx)
    case atStart => exact ⟨0, Nat.zero_le _, rfl, rfl, by show _ = _; rw [List.take_zero, List.take_zero], Below.refl _ _⟩
    case round =>
      obtain ⟨k, hk, rfl, rfl, hS, hbel⟩ := hrel
      by_cases hkn : k < n
      · have i1 : (k : Int) < (n : Int) := by omega
        have kx : k < xs.length := by rw [← HN.out]; exact hkn
        have ky : k < ys.length := by rw [HN2.out]; exact hkn
        obtain ⟨g, o, rfl, hg, hcu⟩ := HU.out (by omega)
        obtain ⟨g', o', rfl, hg', hcv⟩ := HV.out (by omega)
        have c1 : wr.cell? ⟨g, o + k, none⟩ = some (.int .i64 xs[k]) := (hbel.cell (p := ⟨g, o + k, none⟩) hg).trans (hcu k kx)
        have c2 : wr.cell? ⟨g', o' + k, none⟩ = some (.int .i64 ys[k]) := (hbel.cell (p := ⟨g', o' + k, none⟩) hg').trans (hcv k ky)
        have HBE := Lib.hid hbel
        by_cases he : xs[k] = ys[k]
        · have hst : Hid (xs.take (k + 1) = ys.take (k + 1)) := take_eq_snoc kx ky hS.out he
          have he' : (xs[k] != ys[k]) = false := by simpa using he
          clear hS he hcu hcv hbel
          generalize xs[k] = x at *
          generalize ys[k] = y at *
          go_wp2_with fail
          go_quiet (fail)
          go_wp2_with fail
          go_roundg (n - (k + 1))
          case rel => exact ⟨k + 1, by omega, rfl, by go_num, hst, by first | exact HBE.out | exact belowN HBE.out _⟩
          case measure => omega
        · have hfin : Hid (decide (xs = ys) = false) := decide_eq_false (fun h => he (by subst h; rfl))
          have he' : (xs[k] != ys[k]) = true := by simpa using he
          clear hS he hcu hcv hbel
          generalize xs[k] = x at *
          generalize ys[k] = y at *
          go_wp2_with fail
          go_quiet (fail)
          go_wp2_with fail
          go_ret
          exact ⟨by rw [hfin.out]; rfl, by first | exact HBE.out | exact belowN HBE.out _⟩
      · have hfin : Hid (decide (xs = ys) = true) := by
          obtain rfl : k = n := by omega
          have h := hS.out
          rw [List.take_of_length_le (by rw [← HN.out]; exact Nat.le_refl _), List.take_of_length_le (by rw [HN2.out]; exact Nat.le_refl _)] at h
          exact decide_eq_true h
        have HBE := Lib.hid hbel
        clear hS hbel
        go_wp2_with fail
        go_ret
        exact ⟨by rw [hfin.out]; rfl, HBE.out⟩
  · have hfin : Hid (decide (xs = ys) = false) := decide_eq_false (fun h => hl (by rw [h]))
    have hl' : ((xs.length : Int) != (ys.length : Int)) = true := by simp; omega
    go_enter Tryz.func9, Tryz.ntmps9
    go_wp2_with fail
    go_ret
    exact ⟨by rw [hfin.out]; rfl, Below.refl _ _⟩
theorem OwnI.ints {w : World} {B : Nat} {v : Value} {l : List Int} (h : OwnI w B v l) (_ : l.length ≤ 140737488355328) : IntS w v l := by
  rcases h.2 with ⟨rfl, h0⟩ | ⟨g, cap, cur, rfl, hg, hh, hnc, hcp, hcs, htake⟩
  · exact ⟨none, 0, by rw [h0], by omega, by omega, fun h => by omega⟩
  · have hown : w.ownsRow B 3 1 (.slice (some ⟨g, 0, none⟩) l.length cap) l.length (intsV5 l) := h
    refine ⟨_, cap, rfl, hnc, by unfold maxLen at hcp; omega, fun h => ⟨g, 0, rfl, (hown.lt g rfl).2, fun j hj => ?_⟩⟩
    rw [Nat.zero_add, hown.cellAt j (by omega)]
    simp [intsV5, hj]
theorem OwnI.keep {w w' : World} {B B' : Nat} {v : Value} {l : List Int} (h : OwnI w B v l) (hb : Below B' w w') (hB : w.heap.size ≤ B') : OwnI w' B v l := by
  have hown : w.ownsRow B 3 1 v l.length (intsV5 l) := h
  refine ⟨h.1, ?_⟩
  rcases h.2 with ⟨h1, h2⟩ | ⟨g, cap, cur, h1, hg, hh, hnc, hcp, hcs, htake⟩
  · exact .inl ⟨h1, h2⟩
  · have hlt : g < w.heap.size := (hown.lt g (by rw [h1]; rfl)).2
    exact .inr ⟨g, cap, cur, h1, hg, (hb.block g (Nat.lt_of_lt_of_le hlt hB)).trans hh, hnc, hcp, hcs, htake⟩
/-- A slice that a call has just laid. -/
theorem ints_lit (w : World) (zs : List Int) (h0 : zs.length ≤ 9223372036854775807) : IntS (w.alloc (.cells (intsV5 zs).toArray 3)) (.slice (some ⟨w.heap.size, 0, none⟩) zs.length zs.length) zs := by
  refine ⟨_, zs.length, rfl, Nat.le_refl _, h0, fun _ => ⟨w.heap.size, 0, rfl, by simp, fun j hj => ?_⟩⟩
  rw [Nat.zero_add, World.cell?_alloc_at _ _ _ _ rfl]
  simp [intsV5, hj]
end Go.Proofs.YtmhchajdeneabaaGreatDoor

/-
  What turn and endOfRow answer.
-/
namespace Go.Proofs.YtmhchajdeneabaaGreatDoor
open Go.RowKit

namespace Sp
theorem pw_nat (t : Nat) : pw t = ((2 ^ (6 * t) : Nat) : Int) := by
  unfold pw
  rw [Nat.pow_mul]
  simp
theorem pw_le (t : Nat) (h : t ≤ 3) : 1 ≤ pw t ∧ pw t ≤ 262144 := ⟨pw_pos t, (pw_cases t 3 (by omega) h).1⟩
theorem and_pw (x : Int) (t : Nat) (ht : t ≤ 3) (h0 : 0 ≤ x) (h1 : x < 1099511627776) : bits .and .i64 x (pw t - 1) = x % pw t := by
  rw [pw_nat]
  exact and_int x (6 * t) _ rfl h0 h1 (by omega)
theorem or_pw (x : Int) (t : Nat) (ht : t ≤ 3) (h0 : 0 ≤ x) (h1 : x < 1099511627776) : bits .or .i64 x (pw t - 1) = x - x % pw t + (pw t - 1) := by
  rw [pw_nat]
  exact or_int x (6 * t) _ rfl h0 h1 (by omega)
theorem clear_pw (x : Int) (t : Nat) (ht : t ≤ 3) (h0 : 0 ≤ x) (h1 : x < 1099511627776) : bits .andNot .i64 x (pw t - 1) = x - x % pw t := by
  rw [pw_nat]
  exact clear_int x (6 * t) _ rfl h0 h1 (by omega)
end Sp
namespace Sp
theorem endOf_lt {c last : Int} {tails t : Nat} (h : turns c last tails 0 = t) (ht : t < tails) : endOf c last tails = (min last (c - c % pw (t + 1) + (pw (t + 1) - 1)) + 1) - (min last (c - c % pw (t + 1) + (pw (t + 1) - 1)) + 1) % pw t - 1 := by
  unfold endOf
  rw [h]
  dsimp only
  rw [if_pos ht]
theorem endOf_eq {c last : Int} {tails t : Nat} (h : turns c last tails 0 = t) (ht : ¬ t < tails) : endOf c last tails = (last + 1) - (last + 1) % pw t - 1 := by
  unfold endOf
  rw [h]
  dsimp only
  rw [if_neg ht]
end Sp
theorem ret_iY {a b : Int} (h : a = b) : Ending.returned (.int .i64 a) = .returned (.int .i64 b) := by rw [h]
theorem turn_any (t : Nat) (ht : t ≤ 3) (w : World) : Calls Tryz.prog 74 #[.int .i64 t] w fun e w' => e = .returned (.int .i64 (Sp.pw t - 1)) ∧ w = w' := by
  have h : t = 0 ∨ t = 1 ∨ t = 2 ∨ t = 3 := by omega
  clear ht
  rcases h with rfl | rfl | rfl | rfl
  all_goals
    go_enter Tryz.func74, Tryz.ntmps74
    go_wp2_with fail
    go_ret
    exact ⟨ret_iY (by decide +kernel), rfl⟩

set_option maxRecDepth 100000 in
set_option maxHeartbeats 2000000 in
theorem endOf_any (c last : Int) (tails : Nat) (w : World) (h0 : 0 ≤ c) (hc : c ≤ last) (hl : last ≤ 1114111) (ht : tails ≤ 3) :
    Calls Tryz.prog 60 #[.int .i64 c, .int .i64 last, .int .i64 tails] w fun e w' => e = .returned (.int .i64 (Sp.endOf c last tails)) ∧ w = w' := by
  go_enter Tryz.func60, Tryz.ntmps60
  go_wp2_with fail
  go_loop [7] (fun i => ∃ t : Nat, t ≤ tails ∧ i = .int .i64 t ∧ Hid (Sp.turns c last tails 0 = Sp.turns c last (tails - t) t)) (fun i => tails - (intOf i).toNat)
  case atStart => exact ⟨0, Nat.zero_le _, rfl, rfl⟩
  case round =>
    obtain ⟨t, htl, rfl, hT⟩ := hrel
    by_cases hlt : t < tails
    · have i1 : (t : Int) < (tails : Int) := by omega
      have ht3 : t + 1 ≤ 3 := by omega
      have hand := Sp.and_pw c (t + 1) ht3 h0 (by omega)
      have hor := Sp.or_pw c (t + 1) ht3 h0 (by omega)
      obtain ⟨p1, p2⟩ := Sp.pw_le (t + 1) ht3
      have hm0 := Int.emod_nonneg c (show Sp.pw (t + 1) ≠ 0 by omega)
      have hm1 := Int.emod_lt_of_pos c (show 0 < Sp.pw (t + 1) by omega)
      have H : Hid (Calls Tryz.prog 74 #[.int .i64 ((t : Int) + 1)] w fun e w' => e = .returned (.int .i64 (Sp.pw (t + 1) - 1)) ∧ w = w') := by
        have := turn_any (t + 1) ht3 w
        rw [Int.natCast_succ] at this
        exact Lib.hid this
      obtain ⟨m, hm⟩ : ∃ m, tails - t = m + 1 := ⟨tails - t - 1, by omega⟩
      have hstep : Sp.turns c last (m + 1) t = if c % Sp.pw (t + 1) = 0 ∧ c + (Sp.pw (t + 1) - 1) ≤ last then Sp.turns c last m (t + 1) else t := rfl
      have hm2 : tails - (t + 1) = m := by omega
      have HT : Hid (c % Sp.pw (t + 1) = 0 ∧ c + (Sp.pw (t + 1) - 1) ≤ last → Sp.turns c last tails 0 = Sp.turns c last (tails - (t + 1)) (t + 1)) := by
        intro hh
        rw [hT.out, hm, hstep, if_pos hh, hm2]
      have HN : Hid (¬ (c % Sp.pw (t + 1) = 0 ∧ c + (Sp.pw (t + 1) - 1) ≤ last) → Sp.turns c last tails 0 = t) := by
        intro hh
        rw [hT.out, hm, hstep, if_neg hh]
      clear hm hstep hm2 hT
      by_cases hz : c % Sp.pw (t + 1) = 0
      · by_cases hle : c + (Sp.pw (t + 1) - 1) ≤ last
        · have hT2 : Hid (Sp.turns c last tails 0 = Sp.turns c last (tails - (t + 1)) (t + 1)) := HT.out ⟨hz, hle⟩
          rw [hz] at hand hor
          rw [Int.sub_zero] at hor
          clear hz hm0 hm1 HT HN
          generalize Sp.pw (t + 1) = P at *
          go_wp2_with (go_at_call 74; refine H.out.mono ?_; rintro e w' ⟨rfl, rfl⟩)
          go_round
          case rel => exact ⟨t + 1, by omega, by go_num, hT2⟩
          case measure => simp [intOf]; omega
        · have hfin : Hid (Sp.turns c last tails 0 = t) := HN.out (fun h => hle h.2)
          rw [hz] at hand hor
          rw [Int.sub_zero] at hor
          clear HT HN
          obtain ⟨q1, q2⟩ := Sp.pw_le t (by omega)
          have H0 := Lib.hid (turn_any t (by omega) w)
          have hE := Sp.endOf_lt hfin.out hlt
          skip
          clear hfin
          by_cases hmin : last ≤ c + (Sp.pw (t + 1) - 1)
          · rw [show min last (c - c % Sp.pw (t + 1) + (Sp.pw (t + 1) - 1)) = last by omega] at hE
            have hcl := Sp.clear_pw (last + 1) t (by omega) (by omega) (by omega)
            have HF := Lib.hid hE
            have hn0 := Int.emod_nonneg (last + 1) (show Sp.pw t ≠ 0 by omega)
            have hn1 := Int.emod_lt_of_pos (last + 1) (show 0 < Sp.pw t by omega)
            clear hE hz hm0 hm1
            generalize Sp.pw (t + 1) = P at *
            generalize Sp.pw t = R at *
            skip
            go_wp2_with (go_at_call 74; first | (refine H.out.mono ?_; rintro e w' ⟨rfl, rfl⟩) | (refine H0.out.mono ?_; rintro e w' ⟨rfl, rfl⟩))
            go_ret
            exact ⟨ret_iY HF.out.symm, rfl⟩
          · exact absurd (show c + (Sp.pw (t + 1) - 1) ≤ last by omega) hle
      · have hfin : Hid (Sp.turns c last tails 0 = t) := HN.out (fun h => hz h.1)
        have hz1 : (c % Sp.pw (t + 1) == 0) = false := by simpa using hz
        clear HT HN
        obtain ⟨q1, q2⟩ := Sp.pw_le t (by omega)
        have H0 := Lib.hid (turn_any t (by omega) w)
        have hE := Sp.endOf_lt hfin.out hlt
        skip
        clear hfin
        by_cases hmin : last ≤ c - c % Sp.pw (t + 1) + (Sp.pw (t + 1) - 1)
        · rw [show min last (c - c % Sp.pw (t + 1) + (Sp.pw (t + 1) - 1)) = last by omega] at hE
          have hcl := Sp.clear_pw (last + 1) t (by omega) (by omega) (by omega)
          have HF := Lib.hid hE
          have hn0 := Int.emod_nonneg (last + 1) (show Sp.pw t ≠ 0 by omega)
          have hn1 := Int.emod_lt_of_pos (last + 1) (show 0 < Sp.pw t by omega)
          clear hE hz
          generalize Sp.pw (t + 1) = P at *
          generalize Sp.pw t = R at *
          generalize c % P = cm at *
          go_wp2_with (go_at_call 74; first | (refine H.out.mono ?_; rintro e w' ⟨rfl, rfl⟩) | (refine H0.out.mono ?_; rintro e w' ⟨rfl, rfl⟩))
          go_ret
          exact ⟨ret_iY HF.out.symm, rfl⟩
        · rw [show min last (c - c % Sp.pw (t + 1) + (Sp.pw (t + 1) - 1)) = c - c % Sp.pw (t + 1) + (Sp.pw (t + 1) - 1) by omega] at hE
          have hcl := Sp.clear_pw (c - c % Sp.pw (t + 1) + (Sp.pw (t + 1) - 1) + 1) t (by omega) (by omega) (by omega)
          have HF := Lib.hid hE
          have hn0 := Int.emod_nonneg (c - c % Sp.pw (t + 1) + (Sp.pw (t + 1) - 1) + 1) (show Sp.pw t ≠ 0 by omega)
          have hn1 := Int.emod_lt_of_pos (c - c % Sp.pw (t + 1) + (Sp.pw (t + 1) - 1) + 1) (show 0 < Sp.pw t by omega)
          clear hE hz
          generalize Sp.pw (t + 1) = P at *
          generalize Sp.pw t = R at *
          generalize c % P = cm at *
          go_wp2_with (go_at_call 74; first | (refine H.out.mono ?_; rintro e w' ⟨rfl, rfl⟩) | (refine H0.out.mono ?_; rintro e w' ⟨rfl, rfl⟩))
          go_ret
          exact ⟨ret_iY HF.out.symm, rfl⟩
    · have hfin : Hid (Sp.turns c last tails 0 = t) := by
        show _ = _
        rw [hT.out, show tails - t = 0 by omega]
        rfl
      have H0 := Lib.hid (turn_any t (by omega) w)
      have H := H0
      obtain ⟨q1, q2⟩ := Sp.pw_le t (by omega)
      have hE := Sp.endOf_eq hfin.out hlt
      have hcl := Sp.clear_pw (last + 1) t (by omega) (by omega) (by omega)
      have HF := Lib.hid hE
      have hn0 := Int.emod_nonneg (last + 1) (show Sp.pw t ≠ 0 by omega)
      have hn1 := Int.emod_lt_of_pos (last + 1) (show 0 < Sp.pw t by omega)
      clear hfin hT hE
      generalize Sp.pw t = R at *
      go_wp2_with (go_at_call 74; first | (refine H.out.mono ?_; rintro e w' ⟨rfl, rfl⟩) | (refine H0.out.mono ?_; rintro e w' ⟨rfl, rfl⟩))
      go_ret
      exact ⟨ret_iY HF.out.symm, rfl⟩
end Go.Proofs.YtmhchajdeneabaaGreatDoor

/-
  The small functions: which numbers are characters, which stand in words, what they are folded to; the program's and the document's own.
-/
namespace Go.Proofs.YtmhchajdeneabaaGreatDoor
open Go.RowKit

namespace Ut
/-- A number is in one of the ranges. -/
def among (c : Int) : List Int → Bool
  | a :: b :: r => decide (a ≤ c ∧ c ≤ b) || among c r
  | _ => false
/-- A number stands in words. -/
def letter (c : Int) : Bool := among c [97, 122, 65, 90, 48, 57, 192, 214, 216, 246, 248, 591, 880, 893, 895, 1153, 1155, 1327, 19968, 40959]
/-- What a number is folded to. -/
def fold (c : Int) : Int :=
  if among c [65, 90, 192, 214, 216, 222, 913, 929, 931, 937, 1040, 1071] = true then c + 32
  else if 1024 ≤ c ∧ c ≤ 1039 then c + 80 else if c = 962 then 963 else c
theorem fold_far (c : Int) (h : c < 0 ∨ 1071 < c) : fold c = c := by
  have hn : among c [65, 90, 192, 214, 216, 222, 913, 929, 931, 937, 1040, 1071] = false := by
    simp only [among, Bool.or_eq_false_iff, decide_eq_false_iff_not]
    refine ⟨?_, ?_, ?_, ?_, ?_, ?_, trivial⟩ <;> omega
  unfold fold
  rw [hn, if_neg Bool.false_ne_true, if_neg (by omega), if_neg (by omega)]
theorem fold_near : ∀ n : Fin 1072, ((n.val : Int) ≤ fold (n.val : Int) ∧ fold (n.val : Int) ≤ (n.val : Int) + 80) ∧ fold (fold (n.val : Int)) = fold (n.val : Int) ∧ (letter (n.val : Int) = true → letter (fold (n.val : Int)) = true) := by decide +kernel
theorem fold_all (c : Int) : (c ≤ fold c ∧ fold c ≤ c + 80) ∧ fold (fold c) = fold c ∧ (letter c = true → letter (fold c) = true) := by
  by_cases h : c < 0 ∨ 1071 < c
  · rw [fold_far c h, fold_far c h]
    exact ⟨by omega, rfl, id⟩
  · have := fold_near ⟨c.toNat, by omega⟩
    rw [show (((⟨c.toNat, by omega⟩ : Fin 1072).val : Nat) : Int) = c from by show ((c.toNat : Nat) : Int) = c; omega] at this
    exact this
theorem fold_bound (c : Int) : c ≤ fold c ∧ fold c ≤ c + 80 := (fold_all c).1
theorem whole_fold (c : Int) (h : whole c = true) : whole (fold c) = true := by
  by_cases hf : c < 0 ∨ 1071 < c
  · rw [fold_far c hf]; exact h
  · have := fold_bound c
    rw [whole_iff] at *
    omega
end Ut

theorem ret_bool {a b : Bool} (h : a = b) : Ending.returned (.bool a) = .returned (.bool b) := by rw [h]
theorem ret_i {k : IntKind} {a b : Int} (h : a = b) : Ending.returned (.int k a) = .returned (.int k b) := by rw [h]

set_option maxHeartbeats 400000 in
theorem within_any (c lo hi : Int) (w : World) :
    Calls Tryz.prog 32 #[.int .i64 c, .int .i64 lo, .int .i64 hi] w fun e w' => e = .returned (.bool (decide (lo ≤ c ∧ c ≤ hi))) ∧ w = w' := by
  by_cases h1 : lo ≤ c
  · by_cases h2 : c ≤ hi
    · have e : decide (lo ≤ c ∧ c ≤ hi) = true := decide_eq_true ⟨h1, h2⟩
      rw [e]
      go_enter Tryz.func32, Tryz.ntmps32
      go_wp2_with fail
      go_ret
      exact ⟨rfl, rfl⟩
    · have e : decide (lo ≤ c ∧ c ≤ hi) = false := decide_eq_false (fun h => h2 h.2)
      rw [e]
      go_enter Tryz.func32, Tryz.ntmps32
      go_wp2_with fail
      go_ret
      exact ⟨rfl, rfl⟩
  · have e : decide (lo ≤ c ∧ c ≤ hi) = false := decide_eq_false (fun h => h1 h.1)
    rw [e]
    go_enter Tryz.func32, Tryz.ntmps32
    go_wp2_with fail
    go_ret
    exact ⟨rfl, rfl⟩

set_option maxHeartbeats 1000000 in
theorem whole_any (c : Int) (w : World) :
    Calls Tryz.prog 87 #[.int .i64 c] w fun e w' => e = .returned (.bool (Ut.whole c)) ∧ w = w' := by
  have h1 := Lib.hid (within_any c 0 55295 w)
  have h2 := Lib.hid (within_any c 57344 1114111 w)
  have hw : Hid (Ut.whole c = (decide (0 ≤ c ∧ c ≤ 55295) || decide (57344 ≤ c ∧ c ≤ 1114111))) := by
    show _ = _
    rw [Bool.eq_iff_iff, Ut.whole_iff, Bool.or_eq_true, decide_eq_true_iff, decide_eq_true_iff]
    omega
  generalize decide (0 ≤ c ∧ c ≤ 55295) = a at *
  generalize decide (57344 ≤ c ∧ c ≤ 1114111) = b at *
  go_enter Tryz.func87, Tryz.ntmps87
  go_wp2_with fail
  refine h1.out.mono ?_
  rintro e w1 ⟨rfl, rfl⟩
  cases a
  · go_wp2_with fail
    refine h2.out.mono ?_
    rintro e w1 ⟨rfl, rfl⟩
    go_wp2_with fail
    go_ret
    exact ⟨by rw [hw.out]; rfl, rfl⟩
  · go_wp2_with fail
    go_ret
    exact ⟨by rw [hw.out]; rfl, rfl⟩

set_option maxHeartbeats 1000000 in
theorem wholeR_any (c : Int) (w : World) :
    Calls Tryz.prog 24 #[.int .i64 c] w fun e w' => e = .returned (.bool (Ut.whole c)) ∧ w = w' := by
  have hw : ∀ b, (Ut.whole c = b) → Hid (Ut.whole c = b) := fun _ h => h
  by_cases h1 : 0 ≤ c
  · by_cases h2 : c < 55296
    · have hb := hw true (Ut.whole_iff.2 (by omega))
      go_enter Tryz.func24, Tryz.ntmps24
      go_wp2_with fail
      go_ret
      exact ⟨by rw [hb.out]; rfl, rfl⟩
    · by_cases h3 : 57343 < c
      · by_cases h4 : c < 1114112
        · have hb := hw true (Ut.whole_iff.2 (by omega))
          go_enter Tryz.func24, Tryz.ntmps24
          go_wp2_with fail
          go_ret
          exact ⟨by rw [hb.out]; rfl, rfl⟩
        · have hb := hw false (by rw [← Bool.not_eq_true, Ut.whole_iff]; omega)
          go_enter Tryz.func24, Tryz.ntmps24
          go_wp2_with fail
          go_ret
          exact ⟨by rw [hb.out]; rfl, rfl⟩
      · have hb := hw false (by rw [← Bool.not_eq_true, Ut.whole_iff]; omega)
        go_enter Tryz.func24, Tryz.ntmps24
        go_wp2_with fail
        go_ret
        exact ⟨by rw [hb.out]; rfl, rfl⟩
  · have hb := hw false (by rw [← Bool.not_eq_true, Ut.whole_iff]; omega)
    have h3 : ¬ 57343 < c := by omega
    go_enter Tryz.func24, Tryz.ntmps24
    go_wp2_with fail
    go_ret
    exact ⟨by rw [hb.out]; rfl, rfl⟩

theorem letter_split (c : Int) (h1 : ¬ c = 215) (h2 : ¬ c = 247) (h3 : ¬ c = 894) (h4 : ¬ c = 1154) :
    Ut.letter c = (decide (97 ≤ c ∧ c ≤ 122) || (decide (65 ≤ c ∧ c ≤ 90) || (decide (48 ≤ c ∧ c ≤ 57) || (decide (192 ≤ c ∧ c ≤ 591) || (decide (880 ≤ c ∧ c ≤ 1327) || decide (19968 ≤ c ∧ c ≤ 40959)))))) := by
  have e1 : decide (192 ≤ c ∧ c ≤ 591) = (decide (192 ≤ c ∧ c ≤ 214) || (decide (216 ≤ c ∧ c ≤ 246) || decide (248 ≤ c ∧ c ≤ 591))) := by
    rw [← Bool.decide_or, ← Bool.decide_or]
    exact decide_eq_decide.2 (by omega)
  have e2 : decide (880 ≤ c ∧ c ≤ 1327) = (decide (880 ≤ c ∧ c ≤ 893) || (decide (895 ≤ c ∧ c ≤ 1153) || decide (1155 ≤ c ∧ c ≤ 1327))) := by
    rw [← Bool.decide_or, ← Bool.decide_or]
    exact decide_eq_decide.2 (by omega)
  rw [e1, e2]
  simp only [Ut.letter, Ut.among, Bool.or_assoc, Bool.or_false]
set_option maxHeartbeats 1000000 in
theorem letter_any (c : Int) (w : World) :
    Calls Tryz.prog 18 #[.int .i64 c] w fun e w' => e = .returned (.bool (Ut.letter c)) ∧ w = w' := by
  by_cases h : c = 215 ∨ c = 247 ∨ c = 894 ∨ c = 1154
  · rcases h with rfl | rfl | rfl | rfl
    all_goals
      go_enter Tryz.func18, Tryz.ntmps18
      go_wp2_with fail
      go_ret
      exact ⟨ret_bool (by decide +kernel), rfl⟩
  · have hs := Lib.hid (letter_split c (by omega) (by omega) (by omega) (by omega))
    have n1 : (c == 215) = false := by simp; omega
    have n2 : (c == 247) = false := by simp; omega
    have n3 : (c == 894) = false := by simp; omega
    have n4 : (c == 1154) = false := by simp; omega
    have H1 := Lib.hid (within_any c 97 122 w)
    have H2 := Lib.hid (within_any c 65 90 w)
    have H3 := Lib.hid (within_any c 48 57 w)
    have H4 := Lib.hid (within_any c 192 591 w)
    have H5 := Lib.hid (within_any c 880 1327 w)
    have H6 := Lib.hid (within_any c 19968 40959 w)
    generalize decide (97 ≤ c ∧ c ≤ 122) = a1 at *
    generalize decide (65 ≤ c ∧ c ≤ 90) = a2 at *
    generalize decide (48 ≤ c ∧ c ≤ 57) = a3 at *
    generalize decide (192 ≤ c ∧ c ≤ 591) = a4 at *
    generalize decide (880 ≤ c ∧ c ≤ 1327) = a5 at *
    generalize decide (19968 ≤ c ∧ c ≤ 40959) = a6 at *
    clear h
    go_enter Tryz.func18, Tryz.ntmps18
    go_wp2_with fail
    refine H1.out.mono ?_
    rintro e w1 ⟨rfl, rfl⟩
    cases a1
    case true => (go_wp2_with fail; go_ret; exact ⟨ret_bool (by rw [hs.out]; simp), rfl⟩)
    go_wp2_with fail
    refine H2.out.mono ?_
    rintro e w1 ⟨rfl, rfl⟩
    cases a2
    case true => (go_wp2_with fail; go_ret; exact ⟨ret_bool (by rw [hs.out]; simp), rfl⟩)
    go_wp2_with fail
    refine H3.out.mono ?_
    rintro e w1 ⟨rfl, rfl⟩
    cases a3
    case true => (go_wp2_with fail; go_ret; exact ⟨ret_bool (by rw [hs.out]; simp), rfl⟩)
    go_wp2_with fail
    refine H4.out.mono ?_
    rintro e w1 ⟨rfl, rfl⟩
    cases a4
    case true => (go_wp2_with fail; go_ret; exact ⟨ret_bool (by rw [hs.out]; simp), rfl⟩)
    go_wp2_with fail
    refine H5.out.mono ?_
    rintro e w1 ⟨rfl, rfl⟩
    cases a5
    case true => (go_wp2_with fail; go_ret; exact ⟨ret_bool (by rw [hs.out]; simp), rfl⟩)
    go_wp2_with fail
    refine H6.out.mono ?_
    rintro e w1 ⟨rfl, rfl⟩
    cases a6
    · go_wp2_with fail
      go_ret
      exact ⟨ret_bool (by rw [hs.out]; simp), rfl⟩
    · go_wp2_with fail
      go_ret
      exact ⟨ret_bool (by rw [hs.out]; simp), rfl⟩

theorem fold_split (c : Int) (h1 : ¬ c = 215) (h2 : ¬ c = 930) :
    Ut.fold c = if (decide (65 ≤ c ∧ c ≤ 90) || (decide (192 ≤ c ∧ c ≤ 222) || (decide (913 ≤ c ∧ c ≤ 937) || decide (1040 ≤ c ∧ c ≤ 1071)))) = true then c + 32 else if decide (1024 ≤ c ∧ c ≤ 1039) = true then c + 80 else if c = 962 then 963 else c := by
  have e1 : decide (192 ≤ c ∧ c ≤ 222) = (decide (192 ≤ c ∧ c ≤ 214) || decide (216 ≤ c ∧ c ≤ 222)) := by
    rw [← Bool.decide_or]
    exact decide_eq_decide.2 (by omega)
  have e2 : decide (913 ≤ c ∧ c ≤ 937) = (decide (913 ≤ c ∧ c ≤ 929) || decide (931 ≤ c ∧ c ≤ 937)) := by
    rw [← Bool.decide_or]
    exact decide_eq_decide.2 (by omega)
  rw [e1, e2]
  simp only [Ut.fold, Ut.among, Bool.or_assoc, Bool.or_false, decide_eq_true_iff]
set_option maxHeartbeats 1000000 in
theorem fold_any (c : Int) (w : World) :
    Calls Tryz.prog 45 #[.int .i64 c] w fun e w' => e = .returned (.int .i64 (Ut.fold c)) ∧ w = w' := by
  by_cases h : c = 215 ∨ c = 930
  · rcases h with rfl | rfl
    all_goals
      go_enter Tryz.func45, Tryz.ntmps45
      go_wp2_with fail
      go_ret
      exact ⟨ret_i (by decide +kernel), rfl⟩
  · have hs := Lib.hid (fold_split c (by omega) (by omega))
    have n1 : (c == 215) = false := by simp; omega
    have n2 : (c == 930) = false := by simp; omega
    have H1 := Lib.hid (within_any c 65 90 w)
    have H2 := Lib.hid (within_any c 192 222 w)
    have H3 := Lib.hid (within_any c 913 937 w)
    have H4 := Lib.hid (within_any c 1040 1071 w)
    have H5 := Lib.hid (within_any c 1024 1039 w)
    have hb : -10 ≤ c ∧ c ≤ 2000 ∨ (decide (65 ≤ c ∧ c ≤ 90) = false ∧ decide (192 ≤ c ∧ c ≤ 222) = false ∧ decide (913 ≤ c ∧ c ≤ 937) = false ∧ decide (1040 ≤ c ∧ c ≤ 1071) = false ∧ decide (1024 ≤ c ∧ c ≤ 1039) = false) := by
      by_cases hc : -10 ≤ c ∧ c ≤ 2000
      · exact .inl hc
      · refine .inr ⟨?_, ?_, ?_, ?_, ?_⟩ <;> exact decide_eq_false (by omega)
    generalize decide (65 ≤ c ∧ c ≤ 90) = a1 at *
    generalize decide (192 ≤ c ∧ c ≤ 222) = a2 at *
    generalize decide (913 ≤ c ∧ c ≤ 937) = a3 at *
    generalize decide (1040 ≤ c ∧ c ≤ 1071) = a4 at *
    generalize decide (1024 ≤ c ∧ c ≤ 1039) = a5 at *
    have HB := Lib.hid hb
    clear h hb
    go_enter Tryz.func45, Tryz.ntmps45
    go_wp2_with fail
    refine H1.out.mono ?_
    rintro e w1 ⟨rfl, rfl⟩
    cases a1
    case true =>
      have hb := HB.out
      simp only [Bool.true_eq_false, false_and, or_false] at hb
      go_wp2_with fail
      go_ret
      exact ⟨ret_i (by rw [hs.out]; simp <;> omega), rfl⟩
    go_wp2_with fail
    refine H2.out.mono ?_
    rintro e w1 ⟨rfl, rfl⟩
    cases a2
    case true =>
      have hb := HB.out
      simp only [Bool.true_eq_false, false_and, and_false, or_false] at hb
      go_wp2_with fail
      go_ret
      exact ⟨ret_i (by rw [hs.out]; simp <;> omega), rfl⟩
    go_wp2_with fail
    refine H3.out.mono ?_
    rintro e w1 ⟨rfl, rfl⟩
    cases a3
    case true =>
      have hb := HB.out
      simp only [Bool.true_eq_false, false_and, and_false, or_false] at hb
      go_wp2_with fail
      go_ret
      exact ⟨ret_i (by rw [hs.out]; simp <;> omega), rfl⟩
    go_wp2_with fail
    refine H4.out.mono ?_
    rintro e w1 ⟨rfl, rfl⟩
    cases a4
    case true =>
      have hb := HB.out
      simp only [Bool.true_eq_false, false_and, and_false, or_false] at hb
      go_wp2_with fail
      go_ret
      exact ⟨ret_i (by rw [hs.out]; simp <;> omega), rfl⟩
    go_wp2_with fail
    refine H5.out.mono ?_
    rintro e w1 ⟨rfl, rfl⟩
    cases a5
    case true =>
      have hb := HB.out
      simp only [Bool.true_eq_false, and_false, or_false] at hb
      go_wp2_with fail
      go_ret
      exact ⟨ret_i (by rw [hs.out]; simp <;> omega), rfl⟩
    by_cases h9 : c = 962
    · subst h9
      go_wp2_with fail
      go_ret
      exact ⟨ret_i (by rw [hs.out]; simp), rfl⟩
    · have n9 : (c == 962) = false := by simp; omega
      go_wp2_with fail
      go_ret
      exact ⟨ret_i (by rw [hs.out]; simp [h9]), rfl⟩
end Go.Proofs.YtmhchajdeneabaaGreatDoor

/-
  append onto numbers of the call's own, as laws for the walk; a range over a text beside such numbers.
-/
namespace Go.Proofs.YtmhchajdeneabaaGreatDoor
open Go.RowKit

/-- 'append(v, c)' of one number, which lies in a new block. -/
theorem wpList_pushI {ops : Array Oper} {rest : List Oper} {o : Oper} {a : Act} {Q : Exit → Act → World → Prop} {w : World} (hgd : o.guard = none) (s x : Operand)
    (ho : o.op = .call { callee := .builtin .append, args := #[s, x], argTypes := #[22, 22] })
    (B : Nat) (hB : B ≤ w.heap.size) (v : Value) (l : List Int) (c : Int) (hs : a.eval s = v) (h : OwnI w B v l) (hx : a.eval x = .slice (some ⟨w.heap.size, 0, none⟩) 1 1)
    (hb : l.length + 1 ≤ 17592186044416)
    (hk : ∀ v' w', OwnI w' B v' (l ++ [c]) → Below B w w' → (w.alloc (.cells #[.int .i64 c] 3)).grownBy w' v.ownBlock → wpList Tryz.prog ops Q rest (a.put o.dst v') w') :
    wpList Tryz.prog ops Q (o :: rest) a (w.alloc (.cells #[.int .i64 c] 3)) := by
  obtain ⟨ii, hi, hz0, hz1, hz2⟩ := info_parts Tryz.infoI
  have hown : w.ownsRow B 3 1 v l.length (intsV5 l) := h
  refine wpList_append_own _ hgd s x 22 ho B 3 ii (.int .i64 0) 1 8 Tryz.underlying22 hi hz0 hz1 hz2 rfl (by decide) _ _ _ hs (hown.alloc _) ⟨w.heap.size, 0, none⟩ 1 1 [.int .i64 c] hx rfl ?_ ?_ (by unfold maxLen; omega) (by omega) (by simp; omega) ?_
  · intro j u hj
    match j, hj with
    | 0, hj => simp at hj; subst hj; simp [Addr.add]
  · intro u hu
    simp at hu
    subst hu
    rfl
  · intro v' w' h1 h2 _
    obtain ⟨h3, h4⟩ := ownI_push hB h (Below.refl B w) h1 h2
    exact hk v' w' h3 h4 h2

theorem OwnI.of_heap {w w' : World} {B : Nat} {v : Value} {l : List Int} (h : OwnI w B v l) (e : ∀ k, v.ownBlock = some k → k < w.heap.size → w'.heap[k]? = w.heap[k]?) : OwnI w' B v l := by
  have hown : w.ownsRow B 3 1 v l.length (intsV5 l) := h
  refine ⟨h.1, ?_⟩
  rcases h.2 with ⟨h1, h2⟩ | ⟨g, cap, cur, h1, hg, hh, hnc, hcp, hcs, htake⟩
  · exact .inl ⟨h1, h2⟩
  · have hlt : g < w.heap.size := (hown.lt g (by rw [h1]; rfl)).2
    exact .inr ⟨g, cap, cur, h1, hg, (e g (by rw [h1]; rfl) hlt).trans hh, hnc, hcp, hcs, htake⟩
/-- The row of numbers is not the iterator. -/
theorem OwnI.ne_iter {w : World} {B : Nat} {v : Value} {l : List Int} {K : Nat} {s : ByteArray} {pos : Nat} (h : OwnI w B v l) (hk : w.heap[K]? = some (.stringIter s pos)) : ∀ k, v.ownBlock = some k → k ≠ K := by
  intro k hv e
  subst e
  rcases h.2 with ⟨h1, _⟩ | ⟨g, cap, cur, h1, hg, hh, _⟩
  · rw [h1] at hv; cases hv
  · rw [h1] at hv
    obtain rfl : g = k := by simpa [Value.ownBlock] using hv
    rw [hk] at hh
    cases hh
theorem OwnI.iterAt {w : World} {B : Nat} {v : Value} {l : List Int} {K : Nat} {s : ByteArray} {pos : Nat} (h : OwnI w B v l) (hk : w.heap[K]? = some (.stringIter s pos)) (pos' : Nat) : OwnI (w.iterAt K s pos') B v l :=
  h.of_heap fun k hv _ => by
    have hne := h.ne_iter hk k hv
    simp only [World.iterAt]
    rw [Array.getElem?_setIfInBounds_ne (Ne.symm hne)]
theorem below_iterAt {B : Nat} {w0 w : World} {K : Nat} {s : ByteArray} (h : Below B w0 w) (hK : B ≤ K) (pos' : Nat) : Below B w0 (w.iterAt K s pos') :=
  h.trans ⟨rfl, rfl, rfl, by simp [World.iterAt], fun k hk => by simp only [World.iterAt]; rw [Array.getElem?_setIfInBounds_ne (by omega)]⟩
end Go.Proofs.YtmhchajdeneabaaGreatDoor
