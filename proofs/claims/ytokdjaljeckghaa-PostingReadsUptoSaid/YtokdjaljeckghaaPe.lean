/-
  Whether postings may be: the program's Check, the document's.
-/
import Derived.Test.YtokdjaljeckghaaPd
namespace Go.Proofs.Ytokdjaljeckghaa
open Go.RowKit
theorem drop_at {α : Type} {l : List α} {k : Nat} (h : k < l.length) : l.drop k = l[k] :: l.drop (k + 1) := List.drop_eq_getElem_cons h
namespace Pt
theorem chkA_cons (p x : Int) (r : List Int) : chkA p (x :: r) = if x < 0 ∨ x ≤ p then 3 else if 4096 ≤ x then 4 else chkA x r := rfl
theorem chk_cons' (d : Int) (p : Po) (r : List Po) : chk d (p :: r) = if 1048576 ≤ p.doc then 4 else if p.doc < 0 ∨ p.doc ≤ d ∨ p.ats = [] then 3 else if chkA (-1) p.ats = 0 then chk p.doc r else chkA (-1) p.ats := rfl
end Pt
/-- A slice of numbers, each where it lies. -/
theorem IntF.cells {F : Nat → Prop} {w : World} {v : Value} {l : List Int} (h : IntF F w v l) : ∃ a cap, v = .slice a l.length cap ∧ l.length ≤ cap ∧ cap ≤ 9223372036854775807 ∧ (0 < l.length → ∃ g o, a = some ⟨g, o, none⟩ ∧ g < w.heap.size ∧ F g ∧ ∀ j (_ : j < l.length), w.cell? ⟨g, o + j, none⟩ = some (.int .i64 l[j])) := h
set_option maxRecDepth 100000 in
set_option maxHeartbeats 2000000 in
/-- What the program's look at places answers. -/
theorem chkAt_any (w : World) (F : Nat → Prop) (v : Value) (l : List Int) (h : IntF F w v l) :
    Calls Try.prog 30 #[v] w fun e w' => e = .returned (.int .i64 (Pt.chkA (-1) l)) ∧ w' = w := by
  obtain ⟨a, cap, rfl, h1, h2, hv⟩ := h
  obtain ⟨n, hnz⟩ : ∃ n, n = l.length := ⟨_, rfl⟩
  have HU := Lib.hid hv
  have HN := Lib.hid hnz
  rw [← hnz] at h1 ⊢
  clear hv hnz
  go_enter Try.func30, Try.ntmps30
  go_wp2_with fail
  go_loopg [3, 8] n (fun g av i wx => ∃ (k : Nat) (p : Int), k ≤ n ∧ g = n - k ∧ i = .int .i64 k ∧ av = .int .i64 p ∧ -1 ≤ p ∧ Hid (Pt.chkA p (l.drop k) = Pt.chkA (-1) l) ∧ wx = w)
  case atStart => exact ⟨0, -1, Nat.zero_le _, rfl, rfl, rfl, by omega, by show _ = _; rw [List.drop_zero], rfl⟩
  case round =>
    obtain ⟨k, p, hk, rfl, rfl, rfl, hp, hS, rfl⟩ := hrel
    by_cases hkn : k < n
    · have i2 : (k : Int) < (n : Int) := by omega
      have kx : k < l.length := by rw [← HN.out]; exact hkn
      obtain ⟨g, o, rfl, hg, _, hcu⟩ := HU.out (by omega)
      have c1 := hcu k kx
      have hS2 := hS.out
      rw [drop_at kx, Pt.chkA_cons] at hS2
      clear hS hcu
      generalize l[k] = x at *
      by_cases hx : x ≤ p
      · rw [if_pos (.inr hx)] at hS2
        have HS2 := Lib.hid hS2
        clear hS2
        go_wp2_with fail
        go_ret
        exact ⟨by rw [← HS2.out]; rfl, rfl⟩
      · rw [if_neg (by omega)] at hS2
        by_cases hx2 : 4096 ≤ x
        · rw [if_pos hx2] at hS2
          have HS2 := Lib.hid hS2
          clear hS2
          go_wp2_with fail
          go_ret
          exact ⟨by rw [← HS2.out]; rfl, rfl⟩
        · rw [if_neg hx2] at hS2
          have HS2 := Lib.hid hS2
          clear hS2
          go_wp2_with fail
          go_roundg (n - (k + 1))
          case rel => exact ⟨k + 1, x, by omega, rfl, by go_num, rfl, by omega, HS2.out, rfl⟩
          case measure => omega
    · obtain rfl : k = n := by omega
      have hd : l.drop k = [] := List.drop_of_length_le (by rw [← HN.out]; exact Nat.le_refl _)
      have hS2 := hS.out
      rw [hd] at hS2
      have HS2 := Lib.hid hS2
      clear hS hS2 hd
      go_wp2_with fail
      go_ret
      exact ⟨by rw [← HS2.out]; rfl, rfl⟩
set_option maxRecDepth 100000 in
set_option maxHeartbeats 4000000 in
/-- What the program's Check answers. -/
theorem check_any (w : World) (F : Nat → Prop) (v : Value) (d : List Pt.Po) (h : PoS F w v d) :
    Calls Try.prog 14 #[v] w fun e w' => e = .returned (.int .i64 (Pt.chk (-1) d)) ∧ Below w.heap.size w w' := by
  obtain ⟨a, cap, rfl, h1, h2, hv⟩ := h
  obtain ⟨n, hnz⟩ : ∃ n, n = d.length := ⟨_, rfl⟩
  have HU := Lib.hid hv
  have HN := Lib.hid hnz
  rw [← hnz] at h1 ⊢
  clear hv hnz
  go_enter Try.func14, Try.ntmps14
  go_wp2_with fail
  go_loopg [3, 9] n (fun g av i wx => ∃ (k : Nat) (p : Int), k ≤ n ∧ g = n - k ∧ i = .int .i64 k ∧ av = .int .i64 p ∧ -1 ≤ p ∧ Hid (Pt.chk p (d.drop k) = Pt.chk (-1) d) ∧ Below w.heap.size w wx)
  case atStart => exact ⟨0, -1, Nat.zero_le _, rfl, rfl, rfl, by omega, by show _ = _; rw [List.drop_zero], Below.refl _ _⟩
  case round =>
    obtain ⟨k, p, hk, rfl, rfl, rfl, hp, hS, hbel⟩ := hrel
    by_cases hkn : k < n
    · have i2 : (k : Int) < (n : Int) := by omega
      have kx : k < d.length := by rw [← HN.out]; exact hkn
      obtain ⟨g, o, rfl, hg, _, hcu⟩ := HU.out (by omega)
      obtain ⟨a1, va, a2, a3⟩ := hcu k kx
      have c1 := (hbel.cell (p := ⟨g, o + k * 2, none⟩) hg).trans a1
      have c2 := (hbel.cell (p := ⟨g, o + k * 2 + 1, none⟩) hg).trans a2
      have a4 := a3.below hbel
      have hS2 := hS.out
      rw [drop_at kx, Pt.chk_cons'] at hS2
      have HBE := Lib.hid hbel
      clear hS hcu a1 a2 a3 hbel
      generalize d[k].ats = l at *
      generalize d[k].doc = x at *
      obtain ⟨ab, cab, hva, b1, b2, _⟩ := id a4
      have HBA := Lib.hid (HBE.out.alloc HBE.out.size (.cells #[.int .i64 x, va] 40))
      have A4 : Hid (IntF F (wr.alloc (.cells #[.int .i64 x, va] 40)) va l) := a4.below ((Below.refl _ _).alloc (Nat.le_refl _) _)
      subst hva
      clear a4
      by_cases hx : 1048576 ≤ x
      · rw [if_pos hx] at hS2
        have HS2 := Lib.hid hS2
        clear hS2
        go_wp2_with fail
        go_ret
        exact ⟨by rw [← HS2.out]; rfl, HBA.out⟩
      · rw [if_neg hx] at hS2
        by_cases hxp : x ≤ p
        · rw [if_pos (.inr (.inl hxp))] at hS2
          have HS2 := Lib.hid hS2
          clear hS2
          go_wp2_with fail
          go_ret
          exact ⟨by rw [← HS2.out]; rfl, HBA.out⟩
        · by_cases hl : l = []
          · rw [if_pos (.inr (.inr hl))] at hS2
            have HS2 := Lib.hid hS2
            have i3 : (l.length : Int) = 0 := by rw [hl]; rfl
            clear hS2 hl
            go_wp2_with fail
            go_ret
            exact ⟨by rw [← HS2.out]; rfl, HBA.out⟩
          · rw [if_neg (by rintro (q | q | q); omega; exact hxp q; exact hl q)] at hS2
            have i3 : ¬ (l.length : Int) = 0 := by intro q; exact hl (List.length_eq_zero_iff.1 (by omega))
            clear hl
            have hck := Lib.hid (chkAt_any _ F _ l A4.out)
            have HS2 := Lib.hid hS2
            by_cases hc : Pt.chkA (-1) l = 0
            · rw [if_pos hc] at hS2
              have HS3 := Lib.hid hS2
              rw [hc] at hck
              clear hS2 hc HS2
              go_wp2_with (go_at_call 30; refine hck.out.mono ?_; rintro e1 w1 ⟨rfl, rfl⟩)
              go_roundg (n - (k + 1))
              case rel => exact ⟨k + 1, x, by omega, rfl, by go_num, rfl, by omega, HS3.out, HBA.out⟩
              case measure => omega
            · rw [if_neg hc] at hS2
              have HS3 := Lib.hid hS2
              generalize Pt.chkA (-1) l = c at *
              have i4 : ((c : Int) != 0) = true := by simpa using hc
              clear hS2 HS2
              go_wp2_with (go_at_call 30; refine hck.out.mono ?_; rintro e1 w1 ⟨rfl, rfl⟩)
              go_ret
              exact ⟨by rw [← HS3.out]; rfl, HBA.out⟩
    · obtain rfl : k = n := by omega
      have hd : d.drop k = [] := List.drop_of_length_le (by rw [← HN.out]; exact Nat.le_refl _)
      have hS2 := hS.out
      rw [hd] at hS2
      have HS2 := Lib.hid hS2
      have HBE := Lib.hid hbel
      clear hS hS2 hd hbel
      go_wp2_with fail
      go_ret
      exact ⟨by rw [← HS2.out]; rfl, HBE.out⟩
end Go.Proofs.Ytokdjaljeckghaa
