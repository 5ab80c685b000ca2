/-
  Whether postings may be, as the document's package asks it.
-/
import Derived.Test.YtokdjaljeckghaaPe
namespace Go.Proofs.Ytokdjaljeckghaa
open Go.RowKit
namespace Pt
/-- The document ahead of a posting, the place ahead of a place. -/
def pvP (d : List Po) : Nat → Int
  | 0 => -1
  | k + 1 => (d.map Po.doc).getD k 0
def pvA (l : List Int) : Nat → Int
  | 0 => -1
  | k + 1 => l.getD k 0
theorem pvP_next {d : List Po} {k : Nat} (h : k < d.length) : pvP d (k + 1) = d[k].doc := by
  show (d.map Po.doc).getD k 0 = _
  rw [getD_at _ _ (by rw [List.length_map]; exact h), List.getElem_map]
theorem pvA_next {l : List Int} {k : Nat} (h : k < l.length) : pvA l (k + 1) = l[k] := getD_at _ _ h
end Pt
set_option maxRecDepth 100000 in
set_option maxHeartbeats 4000000 in
/-- What the document's Check answers. -/
theorem checkR_any (w : World) (F : Nat → Prop) (v : Value) (d : List Pt.Po) (h : PoS F w v d) :
    Calls Try.prog 15 #[v] w fun e w' => e = .returned (.int .i64 (Pt.chk (-1) d)) ∧ Below w.heap.size w w' := by
  obtain ⟨a, cap, rfl, h1, h2, hv⟩ := h
  obtain ⟨n, hnz⟩ : ∃ n, n = d.length := ⟨_, rfl⟩
  have HU := Lib.hid hv
  have HN := Lib.hid hnz
  rw [← hnz] at h1 ⊢
  clear hv hnz
  go_enter Try.func15, Try.ntmps15
  go_wp2_with fail
  go_loopg [3] n (fun g i wx => ∃ k : Nat, k ≤ n ∧ g = n - k ∧ i = .int .i64 k ∧ Hid (Pt.chk (Pt.pvP d k) (d.drop k) = Pt.chk (-1) d) ∧ Below w.heap.size w wx)
  case atStart => exact ⟨0, Nat.zero_le _, rfl, rfl, by show _ = _; rw [List.drop_zero]; rfl, Below.refl _ _⟩
  case round =>
    obtain ⟨k, hk, rfl, rfl, hS, hbel⟩ := hrel
    have HBE := Lib.hid hbel
    clear hbel
    by_cases hkn : k < n
    · have i2 : (k : Int) < (n : Int) := by omega
      have kx : k < d.length := by rw [← HN.out]; exact hkn
      obtain ⟨g, o, rfl, hg, _, hcu⟩ := HU.out (by omega)
      obtain ⟨a1, va, a2, a3⟩ := hcu k kx
      have hS2 := hS.out
      have hnx := Lib.hid (Pt.pvP_next kx)
      rw [drop_at kx, Pt.chk_cons'] at hS2
      have HP : Hid (∀ j, k = j + 1 → w.cell? ⟨g, o + j * 2, none⟩ = some (.int .i64 (Pt.pvP d k))) := by
        rintro j rfl
        rw [Pt.pvP_next (by omega)]
        exact (hcu j (by omega)).1
      have HP0 : Hid (k = 0 → Pt.pvP d k = -1) := by rintro rfl; rfl
      clear hS hcu
      generalize d[k].ats = l at *
      generalize d[k].doc = x at *
      generalize Pt.pvP d k = p at *
      obtain ⟨ab, cab, rfl, b1, b2, hcl⟩ := a3
      obtain ⟨m, hmz⟩ : ∃ m, m = l.length := ⟨_, rfl⟩
      have HM := Lib.hid hmz
      have HC := Lib.hid hcl
      rw [← hmz] at b1 a2
      have A2 := Lib.hid a2
      have c1 := (HBE.out.cell (p := ⟨g, o + k * 2, none⟩) hg).trans a1
      have c2 := (HBE.out.cell (p := ⟨g, o + k * 2 + 1, none⟩) hg).trans a2
      clear hcl hmz a1 a2
      by_cases hx : 1048576 ≤ x
      · rw [if_pos hx] at hS2
        have HS2 := Lib.hid hS2
        clear hS2
        go_wp2_with fail
        go_ret
        exact ⟨by rw [← HS2.out]; rfl, HBE.out⟩
      · rw [if_neg hx] at hS2
        have HK : Hid (0 < k → ∃ j, k = j + 1) := fun h => ⟨k - 1, by omega⟩
        by_cases hx0 : x < 0
        · rw [if_pos (.inl hx0)] at hS2
          have HS2 := Lib.hid hS2
          clear hS2
          go_wp2_with fail
          try have q0 : ¬ (x : Int) < 0 := by omega
          try have q1 : (0 : Int) < (k : Int) := by omega
          try have q1 : ¬ (0 : Int) < (k : Int) := by omega
          try have q2 : ¬ (x : Int) ≤ p := by omega
          try have q3 : ¬ (m : Int) = 0 := by omega
          go_quiet (fail)
          go_wp2_with fail
          go_ret
          exact ⟨by rw [← HS2.out]; rfl, by first | exact HBE.out | exact belowN HBE.out _⟩
        · by_cases hxp : 0 < k ∧ x ≤ p
          · obtain ⟨k0, hxp⟩ := hxp
            obtain ⟨j, hj⟩ := HK.out k0
            have c3 := (HBE.out.cell (p := ⟨g, o + j * 2, none⟩) hg).trans (HP.out j hj)
            have i4 : (0 : Int) < (k : Int) := by omega
            have i5 : (k : Int) - 1 = (j : Int) := by omega
            have i6 : j < n := by omega
            have i7 : IntKind.i64.wrap (j : Int) = (j : Int) := IntWalk.i64_in _ (by omega)
            rw [if_pos (.inr (.inl hxp))] at hS2
            have HS2 := Lib.hid hS2
            clear hS2 hj
            go_wp2_with fail
            try have q0 : ¬ (x : Int) < 0 := by omega
            try have q1 : (0 : Int) < (k : Int) := by omega
            try have q1 : ¬ (0 : Int) < (k : Int) := by omega
            try have q2 : ¬ (x : Int) ≤ p := by omega
            try have q3 : ¬ (m : Int) = 0 := by omega
            go_quiet (fail)
            go_wp2_with fail
            go_ret
            exact ⟨by rw [← HS2.out]; rfl, by first | exact HBE.out | exact belowN HBE.out _⟩
          · have hxp' : ¬ x ≤ p := by
              intro q
              by_cases k0 : 0 < k
              · exact hxp ⟨k0, q⟩
              · have := HP0.out (by omega)
                omega
            have c3 : Hid (0 < k → ∃ j : Nat, (k : Int) - 1 = (j : Int) ∧ j < n ∧ wr.cell? ⟨g, o + j * 2, none⟩ = some (.int .i64 p)) := fun k0 => by
              obtain ⟨j, hj⟩ := HK.out k0
              exact ⟨j, by omega, by omega, (HBE.out.cell (p := ⟨g, o + j * 2, none⟩) hg).trans (HP.out j hj)⟩
            clear HP HP0 HK hxp
            by_cases hl : l = []
            · rw [if_pos (.inr (.inr hl))] at hS2
              have HS2 := Lib.hid hS2
              have i3 : (m : Int) = 0 := by rw [HM.out, hl]; rfl
              clear hS2 hl
              by_cases k0 : 0 < k
              · obtain ⟨j, i5, i6, c4⟩ := c3.out k0
                have i7 : IntKind.i64.wrap (j : Int) = (j : Int) := IntWalk.i64_in _ (by omega)
                have i4 : (0 : Int) < (k : Int) := by omega
                go_wp2_with fail
                try have q0 : ¬ (x : Int) < 0 := by omega
                try have q1 : (0 : Int) < (k : Int) := by omega
                try have q1 : ¬ (0 : Int) < (k : Int) := by omega
                try have q2 : ¬ (x : Int) ≤ p := by omega
                try have q3 : ¬ (m : Int) = 0 := by omega
                go_quiet (fail)
                go_wp2_with fail
                go_ret
                exact ⟨by rw [← HS2.out]; rfl, by first | exact HBE.out | exact belowN HBE.out _⟩
              · have i4 : ¬ (0 : Int) < (k : Int) := by omega
                go_wp2_with fail
                try have q0 : ¬ (x : Int) < 0 := by omega
                try have q1 : (0 : Int) < (k : Int) := by omega
                try have q1 : ¬ (0 : Int) < (k : Int) := by omega
                try have q2 : ¬ (x : Int) ≤ p := by omega
                try have q3 : ¬ (m : Int) = 0 := by omega
                go_quiet (fail)
                go_wp2_with fail
                go_ret
                exact ⟨by rw [← HS2.out]; rfl, by first | exact HBE.out | exact belowN HBE.out _⟩
            · rw [if_neg (by rintro (q | q | q); exact hx0 q; exact hxp' q; exact hl q)] at hS2
              have i3 : ¬ (m : Int) = 0 := by intro q; exact hl (List.length_eq_zero_iff.1 (by rw [← HM.out]; omega))
              have HS2 := Lib.hid hS2
              clear hl hS2
              by_cases k0 : 0 < k
              · obtain ⟨j, i5, i6, c4⟩ := c3.out k0
                have i7 : IntKind.i64.wrap (j : Int) = (j : Int) := IntWalk.i64_in _ (by omega)
                have i4 : (0 : Int) < (k : Int) := by omega
                go_wp2_with fail
                try have q0 : ¬ (x : Int) < 0 := by omega
                try have q1 : (0 : Int) < (k : Int) := by omega
                try have q1 : ¬ (0 : Int) < (k : Int) := by omega
                try have q2 : ¬ (x : Int) ≤ p := by omega
                try have q3 : ¬ (m : Int) = 0 := by omega
                go_quiet (fail)
                go_wp2_with fail
                have HB2 := HBE
                clear c4 i4 i5 i6 i7 i3 k0 hxp' hx0 hx
                clear c1 c2 c3 HBE
                go_loopg [4] m (fun g' i wx => ∃ j : Nat, j ≤ m ∧ g' = m - j ∧ i = .int .i64 j ∧ Hid (Pt.chkA (Pt.pvA l j) (l.drop j) = Pt.chkA (-1) l) ∧ Below w.heap.size w wx)
                case atStart => exact ⟨0, Nat.zero_le _, rfl, rfl, by show _ = _; rw [List.drop_zero]; rfl, by first | exact HB2.out | exact belowN HB2.out _⟩
                case round =>
                  clear HB2
                  obtain ⟨j, hj, rfl, rfl, hT, hbel⟩ := hrel
                  have HBE := Lib.hid hbel
                  have c2 := (hbel.cell (p := ⟨g, o + k * 2 + 1, none⟩) hg).trans A2.out
                  clear hbel
                  by_cases hjm : j < m
                  · have j2 : (j : Int) < (m : Int) := by omega
                    have jx : j < l.length := by rw [← HM.out]; exact hjm
                    obtain ⟨g2, o2, rfl, hg2, _, hcl⟩ := HC.out (by omega)
                    have c5 := (HBE.out.cell (p := ⟨g2, o2 + j, none⟩) hg2).trans (hcl j jx)
                    have hT2 := hT.out
                    have hny := Lib.hid (Pt.pvA_next jx)
                    rw [drop_at jx, Pt.chkA_cons] at hT2
                    have HQ : Hid (0 < j → ∃ i : Nat, (j : Int) - 1 = (i : Int) ∧ i < m ∧ wr.cell? ⟨g2, o2 + i, none⟩ = some (.int .i64 (Pt.pvA l j))) := fun j0 => by
                      obtain ⟨i, rfl⟩ : ∃ i, j = i + 1 := ⟨j - 1, by omega⟩
                      rw [Pt.pvA_next (by omega)]
                      exact ⟨i, by omega, by omega, (HBE.out.cell (p := ⟨g2, o2 + i, none⟩) hg2).trans (hcl i (by omega))⟩
                    have HQ0 : Hid (j = 0 → Pt.pvA l j = -1) := by rintro rfl; rfl
                    clear hT hcl
                    generalize l[j] = y at *
                    generalize Pt.pvA l j = q at *
                    by_cases hy0 : y < 0
                    · rw [if_pos (.inl hy0)] at hT2
                      have hfin : Hid (3 = Pt.chk (-1) d) := by show _ = _; rw [← HS2.out, ← hT2, if_neg (by omega)]
                      clear hT2
                      go_wp2_with fail
                      try have q0 : ¬ (y : Int) < 0 := by omega
                      try have q1 : (0 : Int) < (j : Int) := by omega
                      try have q1 : ¬ (0 : Int) < (j : Int) := by omega
                      try have q2 : ¬ (y : Int) ≤ q := by omega
                      go_quiet (fail)
                      go_wp2_with fail
                      go_ret
                      exact ⟨by rw [← hfin.out]; rfl, by first | exact HBE.out | exact belowN HBE.out _⟩
                    · by_cases hyq : 0 < j ∧ y ≤ q
                      · obtain ⟨j0, hyq⟩ := hyq
                        obtain ⟨i, e1, e2, c6⟩ := HQ.out j0
                        have i7 : IntKind.i64.wrap (i : Int) = (i : Int) := IntWalk.i64_in _ (by omega)
                        have j4 : (0 : Int) < (j : Int) := by omega
                        rw [if_pos (.inr hyq)] at hT2
                        have hfin : Hid (3 = Pt.chk (-1) d) := by show _ = _; rw [← HS2.out, ← hT2, if_neg (by omega)]
                        clear hT2
                        go_wp2_with fail
                        try have q0 : ¬ (y : Int) < 0 := by omega
                        try have q1 : (0 : Int) < (j : Int) := by omega
                        try have q1 : ¬ (0 : Int) < (j : Int) := by omega
                        try have q2 : ¬ (y : Int) ≤ q := by omega
                        go_quiet (fail)
                        go_wp2_with fail
                        go_ret
                        exact ⟨by rw [← hfin.out]; rfl, by first | exact HBE.out | exact belowN HBE.out _⟩
                      · have hyq' : ¬ y ≤ q := by
                          intro q'
                          by_cases j0 : 0 < j
                          · exact hyq ⟨j0, q'⟩
                          · have := HQ0.out (by omega)
                            omega
                        rw [if_neg (by omega)] at hT2
                        clear hyq HQ0
                        by_cases hy4 : 4096 ≤ y
                        · rw [if_pos hy4] at hT2
                          have hfin : Hid (4 = Pt.chk (-1) d) := by show _ = _; rw [← HS2.out, ← hT2, if_neg (by omega)]
                          clear hT2
                          by_cases j0 : 0 < j
                          · obtain ⟨i, e1, e2, c6⟩ := HQ.out j0
                            have i7 : IntKind.i64.wrap (i : Int) = (i : Int) := IntWalk.i64_in _ (by omega)
                            have j4 : (0 : Int) < (j : Int) := by omega
                            go_wp2_with fail
                            try have q0 : ¬ (y : Int) < 0 := by omega
                            try have q1 : (0 : Int) < (j : Int) := by omega
                            try have q1 : ¬ (0 : Int) < (j : Int) := by omega
                            try have q2 : ¬ (y : Int) ≤ q := by omega
                            go_quiet (fail)
                            have c7 : (wr.drewN 33).cell? ⟨g2, o2 + j, none⟩ = _ := c5
                            go_wp2_with fail
                            go_ret
                            exact ⟨by rw [← hfin.out]; rfl, by first | exact HBE.out | exact belowN HBE.out _⟩
                          · have j4 : ¬ (0 : Int) < (j : Int) := by omega
                            go_wp2_with fail
                            try have q0 : ¬ (y : Int) < 0 := by omega
                            try have q1 : (0 : Int) < (j : Int) := by omega
                            try have q1 : ¬ (0 : Int) < (j : Int) := by omega
                            try have q2 : ¬ (y : Int) ≤ q := by omega
                            go_quiet (fail)
                            go_wp2_with fail
                            go_ret
                            exact ⟨by rw [← hfin.out]; rfl, by first | exact HBE.out | exact belowN HBE.out _⟩
                        · rw [if_neg hy4] at hT2
                          have HT2 := Lib.hid hT2
                          clear hT2
                          by_cases j0 : 0 < j
                          · obtain ⟨i, e1, e2, c6⟩ := HQ.out j0
                            have i7 : IntKind.i64.wrap (i : Int) = (i : Int) := IntWalk.i64_in _ (by omega)
                            have j4 : (0 : Int) < (j : Int) := by omega
                            go_wp2_with fail
                            try have q0 : ¬ (y : Int) < 0 := by omega
                            try have q1 : (0 : Int) < (j : Int) := by omega
                            try have q1 : ¬ (0 : Int) < (j : Int) := by omega
                            try have q2 : ¬ (y : Int) ≤ q := by omega
                            go_quiet (fail)
                            go_wp2_with fail
                            go_roundg (m - (j + 1))
                            case rel => exact ⟨j + 1, by omega, rfl, by go_num, by show _ = _; rw [hny.out]; exact HT2.out, by first | exact HBE.out | exact belowN HBE.out _⟩
                            case measure => omega
                          · have j4 : ¬ (0 : Int) < (j : Int) := by omega
                            go_wp2_with fail
                            try have q0 : ¬ (y : Int) < 0 := by omega
                            try have q1 : (0 : Int) < (j : Int) := by omega
                            try have q1 : ¬ (0 : Int) < (j : Int) := by omega
                            try have q2 : ¬ (y : Int) ≤ q := by omega
                            go_quiet (fail)
                            go_wp2_with fail
                            go_roundg (m - (j + 1))
                            case rel => exact ⟨j + 1, by omega, rfl, by go_num, by show _ = _; rw [hny.out]; exact HT2.out, by first | exact HBE.out | exact belowN HBE.out _⟩
                            case measure => omega
                  · obtain rfl : j = m := by omega
                    have hd : l.drop j = [] := List.drop_of_length_le (by rw [← HM.out]; exact Nat.le_refl _)
                    have hT2 := hT.out
                    rw [hd] at hT2
                    have hT3 : Pt.chkA (-1) l = 0 := hT2.symm
                    have hfin : Hid (Pt.chk x (d.drop (k + 1)) = Pt.chk (-1) d) := by show _ = _; rw [← HS2.out, if_pos hT3]
                    clear hT hT2 hd hT3
                    go_wp2_with fail
                    go_roundg (n - (k + 1))
                    case rel => exact ⟨k + 1, by omega, rfl, by go_num, by show _ = _; rw [hnx.out]; exact hfin.out, HBE.out⟩
                    case measure => omega
              · have i4 : ¬ (0 : Int) < (k : Int) := by omega
                go_wp2_with fail
                try have q0 : ¬ (x : Int) < 0 := by omega
                try have q1 : (0 : Int) < (k : Int) := by omega
                try have q1 : ¬ (0 : Int) < (k : Int) := by omega
                try have q2 : ¬ (x : Int) ≤ p := by omega
                try have q3 : ¬ (m : Int) = 0 := by omega
                go_quiet (fail)
                go_wp2_with fail
                have HB2 := HBE
                clear i4 i3 k0 hxp' hx0 hx
                clear c1 c2 c3 HBE
                go_loopg [4] m (fun g' i wx => ∃ j : Nat, j ≤ m ∧ g' = m - j ∧ i = .int .i64 j ∧ Hid (Pt.chkA (Pt.pvA l j) (l.drop j) = Pt.chkA (-1) l) ∧ Below w.heap.size w wx)
                case atStart => exact ⟨0, Nat.zero_le _, rfl, rfl, by show _ = _; rw [List.drop_zero]; rfl, by first | exact HB2.out | exact belowN HB2.out _⟩
                case round =>
                  clear HB2
                  obtain ⟨j, hj, rfl, rfl, hT, hbel⟩ := hrel
                  have HBE := Lib.hid hbel
                  have c2 := (hbel.cell (p := ⟨g, o + k * 2 + 1, none⟩) hg).trans A2.out
                  clear hbel
                  by_cases hjm : j < m
                  · have j2 : (j : Int) < (m : Int) := by omega
                    have jx : j < l.length := by rw [← HM.out]; exact hjm
                    obtain ⟨g2, o2, rfl, hg2, _, hcl⟩ := HC.out (by omega)
                    have c5 := (HBE.out.cell (p := ⟨g2, o2 + j, none⟩) hg2).trans (hcl j jx)
                    have hT2 := hT.out
                    have hny := Lib.hid (Pt.pvA_next jx)
                    rw [drop_at jx, Pt.chkA_cons] at hT2
                    have HQ : Hid (0 < j → ∃ i : Nat, (j : Int) - 1 = (i : Int) ∧ i < m ∧ wr.cell? ⟨g2, o2 + i, none⟩ = some (.int .i64 (Pt.pvA l j))) := fun j0 => by
                      obtain ⟨i, rfl⟩ : ∃ i, j = i + 1 := ⟨j - 1, by omega⟩
                      rw [Pt.pvA_next (by omega)]
                      exact ⟨i, by omega, by omega, (HBE.out.cell (p := ⟨g2, o2 + i, none⟩) hg2).trans (hcl i (by omega))⟩
                    have HQ0 : Hid (j = 0 → Pt.pvA l j = -1) := by rintro rfl; rfl
                    clear hT hcl
                    generalize l[j] = y at *
                    generalize Pt.pvA l j = q at *
                    by_cases hy0 : y < 0
                    · rw [if_pos (.inl hy0)] at hT2
                      have hfin : Hid (3 = Pt.chk (-1) d) := by show _ = _; rw [← HS2.out, ← hT2, if_neg (by omega)]
                      clear hT2
                      go_wp2_with fail
                      try have q0 : ¬ (y : Int) < 0 := by omega
                      try have q1 : (0 : Int) < (j : Int) := by omega
                      try have q1 : ¬ (0 : Int) < (j : Int) := by omega
                      try have q2 : ¬ (y : Int) ≤ q := by omega
                      go_quiet (fail)
                      go_wp2_with fail
                      go_ret
                      exact ⟨by rw [← hfin.out]; rfl, by first | exact HBE.out | exact belowN HBE.out _⟩
                    · by_cases hyq : 0 < j ∧ y ≤ q
                      · obtain ⟨j0, hyq⟩ := hyq
                        obtain ⟨i, e1, e2, c6⟩ := HQ.out j0
                        have i7 : IntKind.i64.wrap (i : Int) = (i : Int) := IntWalk.i64_in _ (by omega)
                        have j4 : (0 : Int) < (j : Int) := by omega
                        rw [if_pos (.inr hyq)] at hT2
                        have hfin : Hid (3 = Pt.chk (-1) d) := by show _ = _; rw [← HS2.out, ← hT2, if_neg (by omega)]
                        clear hT2
                        go_wp2_with fail
                        try have q0 : ¬ (y : Int) < 0 := by omega
                        try have q1 : (0 : Int) < (j : Int) := by omega
                        try have q1 : ¬ (0 : Int) < (j : Int) := by omega
                        try have q2 : ¬ (y : Int) ≤ q := by omega
                        go_quiet (fail)
                        go_wp2_with fail
                        go_ret
                        exact ⟨by rw [← hfin.out]; rfl, by first | exact HBE.out | exact belowN HBE.out _⟩
                      · have hyq' : ¬ y ≤ q := by
                          intro q'
                          by_cases j0 : 0 < j
                          · exact hyq ⟨j0, q'⟩
                          · have := HQ0.out (by omega)
                            omega
                        rw [if_neg (by omega)] at hT2
                        clear hyq HQ0
                        by_cases hy4 : 4096 ≤ y
                        · rw [if_pos hy4] at hT2
                          have hfin : Hid (4 = Pt.chk (-1) d) := by show _ = _; rw [← HS2.out, ← hT2, if_neg (by omega)]
                          clear hT2
                          by_cases j0 : 0 < j
                          · obtain ⟨i, e1, e2, c6⟩ := HQ.out j0
                            have i7 : IntKind.i64.wrap (i : Int) = (i : Int) := IntWalk.i64_in _ (by omega)
                            have j4 : (0 : Int) < (j : Int) := by omega
                            go_wp2_with fail
                            try have q0 : ¬ (y : Int) < 0 := by omega
                            try have q1 : (0 : Int) < (j : Int) := by omega
                            try have q1 : ¬ (0 : Int) < (j : Int) := by omega
                            try have q2 : ¬ (y : Int) ≤ q := by omega
                            go_quiet (fail)
                            have c7 : (wr.drewN 33).cell? ⟨g2, o2 + j, none⟩ = _ := c5
                            go_wp2_with fail
                            go_ret
                            exact ⟨by rw [← hfin.out]; rfl, by first | exact HBE.out | exact belowN HBE.out _⟩
                          · have j4 : ¬ (0 : Int) < (j : Int) := by omega
                            go_wp2_with fail
                            try have q0 : ¬ (y : Int) < 0 := by omega
                            try have q1 : (0 : Int) < (j : Int) := by omega
                            try have q1 : ¬ (0 : Int) < (j : Int) := by omega
                            try have q2 : ¬ (y : Int) ≤ q := by omega
                            go_quiet (fail)
                            go_wp2_with fail
                            go_ret
                            exact ⟨by rw [← hfin.out]; rfl, by first | exact HBE.out | exact belowN HBE.out _⟩
                        · rw [if_neg hy4] at hT2
                          have HT2 := Lib.hid hT2
                          clear hT2
                          by_cases j0 : 0 < j
                          · obtain ⟨i, e1, e2, c6⟩ := HQ.out j0
                            have i7 : IntKind.i64.wrap (i : Int) = (i : Int) := IntWalk.i64_in _ (by omega)
                            have j4 : (0 : Int) < (j : Int) := by omega
                            go_wp2_with fail
                            try have q0 : ¬ (y : Int) < 0 := by omega
                            try have q1 : (0 : Int) < (j : Int) := by omega
                            try have q1 : ¬ (0 : Int) < (j : Int) := by omega
                            try have q2 : ¬ (y : Int) ≤ q := by omega
                            go_quiet (fail)
                            go_wp2_with fail
                            go_roundg (m - (j + 1))
                            case rel => exact ⟨j + 1, by omega, rfl, by go_num, by show _ = _; rw [hny.out]; exact HT2.out, by first | exact HBE.out | exact belowN HBE.out _⟩
                            case measure => omega
                          · have j4 : ¬ (0 : Int) < (j : Int) := by omega
                            go_wp2_with fail
                            try have q0 : ¬ (y : Int) < 0 := by omega
                            try have q1 : (0 : Int) < (j : Int) := by omega
                            try have q1 : ¬ (0 : Int) < (j : Int) := by omega
                            try have q2 : ¬ (y : Int) ≤ q := by omega
                            go_quiet (fail)
                            go_wp2_with fail
                            go_roundg (m - (j + 1))
                            case rel => exact ⟨j + 1, by omega, rfl, by go_num, by show _ = _; rw [hny.out]; exact HT2.out, by first | exact HBE.out | exact belowN HBE.out _⟩
                            case measure => omega
                  · obtain rfl : j = m := by omega
                    have hd : l.drop j = [] := List.drop_of_length_le (by rw [← HM.out]; exact Nat.le_refl _)
                    have hT2 := hT.out
                    rw [hd] at hT2
                    have hT3 : Pt.chkA (-1) l = 0 := hT2.symm
                    have hfin : Hid (Pt.chk x (d.drop (k + 1)) = Pt.chk (-1) d) := by show _ = _; rw [← HS2.out, if_pos hT3]
                    clear hT hT2 hd hT3
                    go_wp2_with fail
                    go_roundg (n - (k + 1))
                    case rel => exact ⟨k + 1, by omega, rfl, by go_num, by show _ = _; rw [hnx.out]; exact hfin.out, HBE.out⟩
                    case measure => omega
    · obtain rfl : k = n := by omega
      have hd : d.drop k = [] := List.drop_of_length_le (by rw [← HN.out]; exact Nat.le_refl _)
      have hS2 := hS.out
      rw [hd] at hS2
      have HS2 := Lib.hid hS2
      clear hS hS2 hd
      go_wp2_with fail
      go_ret
      exact ⟨by rw [← HS2.out]; rfl, HBE.out⟩
end Go.Proofs.Ytokdjaljeckghaa
