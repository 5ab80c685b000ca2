/-
  SpansNone.
-/
import Derived.Test.YtmpjhbbcfnffhaaYq
namespace Go.Proofs.Ytmpjhbbcfnffhaa
open Go.RowKit

set_option maxRecDepth 100000 in
set_option maxHeartbeats 4000000 in
theorem none_walk (w : World) (v : Value) (L : List Au.Lo) (h : LoS (fun _ => True) w v L) (hs : ∀ s ∈ L, s.arcs.length * 24 ≤ 140737488355328 ∧ s.free.length * 8 ≤ 140737488355328) (from_ to_ lo hi : Int) :
    Calls Try.prog 5 #[v, .int .i64 from_, .int .i64 to_, .int .i64 lo, .int .i64 hi] w fun e w' => e = .returned (.bool true) ∧ Below w.heap.size w w' := by
  have HA := Lib.hid (fun w => awake_any w)
  obtain ⟨n, hn⟩ : ∃ n, n = L.length := ⟨_, rfl⟩
  have HN := Lib.hid hn
  obtain ⟨a, cap, rfl, hcn, hcp, hc⟩ := id h
  have HH := Lib.hid h
  have HS := Lib.hid hs
  have HC := Lib.hid hc
  rw [← hn] at hcn HH ⊢
  clear h hs hn hc
  by_cases hbig : 40 < n
  · have i0 : (40 : Int) < (n : Int) := by omega
    go_enter Try.func5, Try.ntmps5
    go_wp2_with fail
    refine (HA.out w).mono ?_
    rintro e w1 ⟨rfl, hb1⟩
    have HB1 := Lib.hid hb1
    clear hb1
    go_wp2_with fail
    refine (HA.out w1).mono ?_
    rintro e w2 ⟨rfl, hb2⟩
    have HB2 : Hid (Below w.heap.size w w2) := HB1.out.trans (hb2.mono HB1.out.size)
    clear hb2
    go_wp2_with fail
    go_ret
    exact ⟨rfl, HB2.out⟩
  · by_cases hin : (0 ≤ from_ ∧ from_ < n) ∧ (0 ≤ to_ ∧ to_ < n)
    · obtain ⟨⟨q1, q2⟩, q3, q4⟩ := hin
      go_enter Try.func5, Try.ntmps5
      go_wp2_with fail
      refine (HA.out w).mono ?_
      rintro e w1 ⟨rfl, hb1⟩
      have HB1 := Lib.hid hb1
      clear hb1
      go_wp2_with fail
      refine (HA.out w1).mono ?_
      rintro e w2 ⟨rfl, hb2⟩
      have HB2 : Hid (Below w.heap.size w w2) := HB1.out.trans (hb2.mono HB1.out.size)
      clear hb2
      go_wp2_with fail
      go_ret
      exact ⟨rfl, HB2.out⟩
    · have hcases : from_ < 0 ∨ (0 ≤ from_ ∧ n ≤ from_) ∨ (0 ≤ from_ ∧ from_ < n ∧ to_ < 0) ∨ (0 ≤ from_ ∧ from_ < n ∧ 0 ≤ to_ ∧ n ≤ to_) := by omega
      have HLE : Hid (∀ W, Below w.heap.size w W → Calls Try.prog 13 #[.slice a n cap, .int .i64 from_, .int .i64 to_, .int .i64 lo, .int .i64 hi] W fun e w' => ∃ v' vals, e = .returned v' ∧ LoO w' W.heap.size v' vals L ∧ Below W.heap.size W w') := fun W hb =>
        leadNone_any _ W _ L (HH.out.keep hb.size fun g _ hg => hb.block g hg) (by have := HN.out; omega) HS.out from_ to_ lo hi (by have := HN.out; rw [← this]; exact hin)
      clear hin
      rcases hcases with hq | ⟨q1, hq⟩ | ⟨q1, q2, hq⟩ | ⟨q1, q2, q3, hq⟩
      all_goals
        go_enter Try.func5, Try.ntmps5
        go_wp2_with fail
        refine (HA.out w).mono ?_
        rintro e w1 ⟨rfl, hb1⟩
        have HB1 := Lib.hid hb1
        clear hb1
        go_wp2_with fail
        refine (HLE.out w1 HB1.out).mono ?_
        rintro e w2 ⟨v2, vals, rfl, hO, hb2⟩
        have HO := Lib.hid (hO.los (fun _ => True) fun _ _ => trivial)
        have HB2 : Hid (Below w.heap.size w w2) := HB1.out.trans (hb2.mono HB1.out.size)
        obtain ⟨a2, cap2, rfl, hcn2, hcp2, hc2⟩ := HO.out
        rw [← HN.out] at hcn2 ⊢
        have HC2 := Lib.hid hc2
        clear hb2 hO hc2 HO
        go_wp2_with fail
        go_loopg [12] n (fun g i wx => ∃ k : Nat, k ≤ n ∧ g = n - k ∧ i = .int .i64 k ∧ Hid (Below w2.heap.size w2 wx))
        case atStart => exact ⟨0, Nat.zero_le _, rfl, rfl, Below.refl _ _⟩
        case round =>
          obtain ⟨k, hk, rfl, rfl, hbel⟩ := hrel
          by_cases hkn : k < n
          · have i1 : (k : Int) < (n : Int) := by omega
            have hkL : k < L.length := by rw [← HN.out]; exact hkn
            obtain ⟨g1, o1, rfl, l1, _, hcl1⟩ := HC.out (by omega)
            obtain ⟨g2, o2, rfl, l2, _, hcl2⟩ := HC2.out (by omega)
            obtain ⟨t1, ⟨va, t2, t3⟩, vf, t4, t5⟩ := hcl1 k hkL
            obtain ⟨u1, ⟨ua, u2, u3⟩, uf, u4, u5⟩ := hcl2 k hkL
            clear hcl1 hcl2
            generalize L[k] = s at *
            obtain ⟨fin, arcs, free⟩ := s
            dsimp only at *
            obtain ⟨ad, ca, rfl, _, _, ta⟩ := t3
            obtain ⟨fd, cf, rfl, _, _, _⟩ := t5
            obtain ⟨ae, cb, rfl, _, _, ub⟩ := u3
            obtain ⟨fe, cg, rfl, _, _, _⟩ := u5
            have HX1 : Hid (∀ W, Below w2.heap.size w2 W → W.cell? ⟨g1, o1 + k * 3, none⟩ = some (.bool fin) ∧ W.cell? ⟨g1, o1 + k * 3 + 1, none⟩ = some (.slice ad arcs.length ca) ∧ W.cell? ⟨g1, o1 + k * 3 + 2, none⟩ = some (.slice fd free.length cf)) := fun W hb => by
              have hb3 := HB2.out.trans (hb.mono HB2.out.size)
              exact ⟨(hb3.cell (p := ⟨g1, o1 + k * 3, none⟩) l1).trans t1, (hb3.cell (p := ⟨g1, o1 + k * 3 + 1, none⟩) l1).trans t2, (hb3.cell (p := ⟨g1, o1 + k * 3 + 2, none⟩) l1).trans t4⟩
            have HX2 : Hid (∀ W, Below w2.heap.size w2 W → W.cell? ⟨g2, o2 + k * 3, none⟩ = some (.bool fin) ∧ W.cell? ⟨g2, o2 + k * 3 + 1, none⟩ = some (.slice ae arcs.length cb) ∧ W.cell? ⟨g2, o2 + k * 3 + 2, none⟩ = some (.slice fe free.length cg)) := fun W hb =>
              ⟨(hb.cell (p := ⟨g2, o2 + k * 3, none⟩) l2).trans u1, (hb.cell (p := ⟨g2, o2 + k * 3 + 1, none⟩) l2).trans u2, (hb.cell (p := ⟨g2, o2 + k * 3 + 2, none⟩) l2).trans u4⟩
            have HTA := Lib.hid ta
            have HUB := Lib.hid ub
            obtain ⟨na, hna⟩ : ∃ na, na = arcs.length := ⟨_, rfl⟩
            obtain ⟨nf, hnf⟩ : ∃ nf, nf = free.length := ⟨_, rfl⟩
            have HNA := Lib.hid hna
            rw [← hna, ← hnf] at HX1 HX2
            clear t1 t2 t4 u1 u2 u4 ta ub hna hnf
            obtain ⟨x1, x2, x3⟩ := HX1.out wr hbel.out
            obtain ⟨y1, y2, y3⟩ := HX2.out wr hbel.out
            go_wp2_with fail
            go_quiet (fail)
            have HBQ : Hid (Below w2.heap.size w2 (wr.drewN nq)) := belowN hbel.out nq
            clear x1 x2 x3 y1 y2 y3 hbel
            go_wp2_with fail
            generalize wr.drewN nq = wo at *
            go_loopg [13] na (fun g' i wx => ∃ j : Nat, j ≤ na ∧ g' = na - j ∧ i = .int .i64 j ∧ Hid (Below w2.heap.size w2 wx))
            case atStart => exact ⟨0, Nat.zero_le _, rfl, rfl, HBQ⟩
            case round =>
              obtain ⟨j, hj, rfl, rfl, hbel⟩ := hrel
              obtain ⟨x1, x2, x3⟩ := HX1.out wr hbel.out
              obtain ⟨y1, y2, y3⟩ := HX2.out wr hbel.out
              by_cases hjn : j < na
              · have i2 : (j : Int) < (na : Int) := by omega
                have hja : j < arcs.length := by rw [← HNA.out]; exact hjn
                obtain ⟨ga, oa, rfl, la, _, ca1⟩ := HTA.out (by omega)
                obtain ⟨gb, ob, rfl, lb, _, cb1⟩ := HUB.out (by omega)
                obtain ⟨p1, p2, p3⟩ := ca1 j hja
                obtain ⟨r1, r2, r3⟩ := cb1 j hja
                have hb3 := HB2.out.trans (hbel.out.mono HB2.out.size)
                have s1 := (hb3.cell (p := ⟨ga, oa + j * 3, none⟩) la).trans p1
                have s2 := (hb3.cell (p := ⟨ga, oa + j * 3 + 1, none⟩) la).trans p2
                have s3 := (hb3.cell (p := ⟨ga, oa + j * 3 + 2, none⟩) la).trans p3
                have v1 := (hbel.out.cell (p := ⟨gb, ob + j * 3, none⟩) lb).trans r1
                have v2 := (hbel.out.cell (p := ⟨gb, ob + j * 3 + 1, none⟩) lb).trans r2
                have v3 := (hbel.out.cell (p := ⟨gb, ob + j * 3 + 2, none⟩) lb).trans r3
                clear ca1 cb1 p1 p2 p3 r1 r2 r3 hb3
                generalize arcs[j] = x at *
                obtain ⟨xl, xh, xt⟩ := x
                dsimp only at *
                go_wp2_with fail
                go_quiet (fail)
                go_wp2_with fail
                go_roundg (na - (j + 1))
                case rel => exact ⟨j + 1, by omega, rfl, by go_num, belowN hbel.out _⟩
                case measure => omega
              · go_wp2_with fail
                go_roundg (n - (k + 1))
                case rel => exact ⟨k + 1, by omega, rfl, by go_num, hbel⟩
                case measure => omega
          · have hkk : k = n := by omega
            go_wp2_with fail
            go_ret
            exact ⟨rfl, HB2.out.trans (hbel.out.mono HB2.out.size)⟩
end Go.Proofs.Ytmpjhbbcfnffhaa
