/-
  The program's sets in memory: Kill.
-/
import Derived.Test.YtoppgecajibelaaTb
namespace Go.Proofs.Ytoppgecajibelaa
open Go.RowKit
/-- What Kill answers, and what else stays. -/
def KillS (w : World) (B p n : Nat) (G : List Nat) (v : Value) (x : Int) (e : Ending) (w' : World) : Prop :=
  e = .returned (.bool (Ls.lv n G x)) ∧ Below B w w' ∧ SetS w' B p n (Ls.kill n G x) v ∧ (∀ k, k ≠ p → v.ownBlock ≠ some k → w'.heap[k]? = w.heap[k]?)
set_option maxRecDepth 100000 in
set_option maxHeartbeats 400000 in
theorem killP_any (w : World) (B p n : Nat) (G : List Nat) (v : Value) (h : SetS w B p n G v) (x : Int) :
    Calls Try.prog 12 #[.pointer (some ⟨p, 0, none⟩), .int .i64 x] w (KillS w B p n G v x) := by
  have hlv := Lib.hid (liveP_any w B p n G v h x)
  have H := Lib.hid h
  by_cases hx : Ls.lv n G x = true
  · rw [hx] at hlv
    have HX := Lib.hid hx
    obtain ⟨h0, h1, h2⟩ := of_decide_eq_true hx
    obtain ⟨d, rfl⟩ := Int.eq_ofNat_of_zero_le h0
    rw [Int.toNat_natCast] at h2
    have hlim := h.lim
    have hd : d < n := by omega
    obtain ⟨a, c, rfl, hc⟩ := h.bytes
    obtain ⟨g, rfl, hg⟩ := hc (by omega)
    obtain ⟨g1, g2⟩ := hg (d / 8) (by omega)
    have hne : g ≠ p := fun e => h.far (by rw [e]; rfl)
    have HO := Lib.hid (SetS.bit h.own h.ok hd h2)
    obtain ⟨c0, c1, c2, c3⟩ := tri_box h.box
    have f1 := c3 1
    have hbit : (Ls.cel (Ls.val G) (d / 8)).testBit (d % 8) = false := by rw [Ls.cel_has h.ok, decide_eq_false h2]
    obtain ⟨b, hb⟩ : ∃ b, b = Ls.cel (Ls.val G) (d / 8) := ⟨_, rfl⟩
    have hb8 : b < 256 := by rw [hb]; exact Ls.cel_lt _ _
    obtain ⟨r, hr⟩ : ∃ r, r = d % 8 := ⟨_, rfl⟩
    obtain ⟨dq, hdq⟩ : ∃ dq, dq = d / 8 := ⟨_, rfl⟩
    have hr8 : r < 8 := by omega
    have t1 : (d : Int).tmod 8 = (r : Int) := by rw [Int.tmod_eq_emod_of_nonneg (by omega), hr]; omega
    have t2 : (d : Int).tdiv 8 = (dq : Int) := by rw [Int.tdiv_eq_ediv_of_nonneg (by omega), hdq]; omega
    rw [← hr] at hbit HO
    rw [← hb] at hbit g1 HO
    rw [← hdq] at g1 g2 HO
    have hdl : dq ≤ 131072 := by omega
    have hrl : r ≤ 131072 := by omega
    obtain ⟨q, hq⟩ : ∃ q, q = (n + 7) / 8 := ⟨_, rfl⟩
    have hqd : (dq : Int) < (q : Int) := by omega
    obtain ⟨y, hy⟩ : ∃ y, y = b + Ls.pw r := ⟨_, rfl⟩
    rw [← hy] at HO
    have HY : Hid (y < 256) := by
      show y < 256
      have h9 := Ls.cel_add (show (Ls.val G).testBit d = false by rw [Ls.val_bit h.ok.nd, decide_eq_false h2]) dq
      rw [if_pos (by omega)] at h9
      have := Ls.cel_lt (Ls.val G + 2 ^ d) dq
      have e : Ls.cel (Ls.val G) dq = b := by rw [hb, hdq]
      rw [h9, e, ← hr] at this
      rw [hy]
      exact this
    have hW : Hid (wrap64 ((n : Int) - (G.length : Int) - 1) = (n : Int) - ((G ++ [d]).length : Int)) := by
      show _ = _
      rw [left_wrap _ _ hlim h.ok.len, List.length_append]
      simp
      omega
    have hkl : Hid (Ls.kill n G (d : Int) = G ++ [d]) := by show _ = _; unfold Ls.kill; rw [if_pos hx, Int.toNat_natCast]
    rw [← hq] at H c2 HO ⊢
    have e1 : (w.setCell ⟨g, dq, none⟩ (.int .u8 (y : Int))).cell? ⟨p, 1, none⟩ = some (.int .i64 ((n : Int) - (G.length : Int))) := by
      rw [World.cell?_of_block (w := w) (heap_other _ _ _ _ _ (Ne.symm hne)), c1]
    have e2 : (w.setCell ⟨g, dq, none⟩ (.int .u8 (y : Int))).frozen? ⟨p, 1, none⟩ = false := by
      rw [World.frozen?_of_block (w := w) (heap_other _ _ _ _ _ (Ne.symm hne)), f1]
    have k5 : (0 : Int) ≤ (dq : Int) := Int.natCast_nonneg _
    have k6 : (0 : Int) ≤ (r : Int) := Int.natCast_nonneg _
    have d2 : w.drew.cell? ⟨p, 2, none⟩ = some (.slice (some ⟨g, 0, none⟩) q c) := c2
    have dg1 : w.drew.cell? ⟨g, dq, none⟩ = some (.int .u8 (b : Int)) := g1
    have dg2 : w.drew.frozen? ⟨g, dq, none⟩ = false := g2
    have hor := or_fact b r y hb8 hr8 hbit hy
    clear h hx hc hg c3 hb hr hdq hq hy hbit h0 h1
    refine Calls.mono (R := fun e w' => e = .returned (.bool true) ∧ w' = ((w.setCell ⟨g, dq, none⟩ (.int .u8 (y : Int))).setCell ⟨p, 1, none⟩ (.int .i64 (wrap64 ((n : Int) - (G.length : Int) - 1)))).drew) ?_ ?_
    · clear H HX hkl HO HY hW
      have hr9 : r = 0 ∨ r = 1 ∨ r = 2 ∨ r = 3 ∨ r = 4 ∨ r = 5 ∨ r = 6 ∨ r = 7 := by omega
      rcases hr9 with rfl | rfl | rfl | rfl | rfl | rfl | rfl | rfl
      all_goals
        simp at hor
        have k1 : ∀ _ : True, IntKind.i64.wrap (dq : Int) = (dq : Int) := fun _ => small_i64 dq hdl
        have k2 : ∀ _ : True, wrap64 (dq : Int) = (dq : Int) := fun _ => small_64 dq hdl
        go_enter Try.func12, Try.ntmps12
        go_wp2_with (go_at_call 15; refine hlv.out.mono ?_; rintro e1 w1 ⟨rfl, rfl⟩; clear hlv)
        go_region
        go_wp2_with fail
        go_ret
        exact ⟨rfl, rfl⟩
    rintro e w' ⟨rfl, rfl⟩
    have hb1 := (H.out.box)
    have hbx : (w.setCell ⟨g, dq, none⟩ (.int .u8 (y : Int))).heap[p]? = some (.cells #[.int .i64 (n : Int), .int .i64 ((n : Int) - (G.length : Int)), .slice (some ⟨g, 0, none⟩) q c] 49 (0, 0)) := (heap_other _ _ _ _ _ (Ne.symm hne)).trans H.out.box
    have hok := Ls.kill_ok H.out.ok (d : Int)
    rw [hkl.out] at hok
    refine ⟨by rw [HX.out], (((Below.refl _ _).setCell (p := ⟨g, dq, none⟩) (World.ownsRow.lt H.out.own g rfl).1 _).setCell (p := ⟨p, 1, none⟩) H.out.base _).drew, ?_, fun k hk hv => (heap_other _ _ _ _ _ hk).trans (heap_other _ _ _ _ _ fun e => hv (by rw [e]; rfl))⟩
    rw [hkl.out]
    refine ⟨H.out.base, ?_, ?_, hok, H.out.lim⟩
    · show (World.setCell _ _ _).heap[p]? = _
      rw [heap_set _ _ _ _ _ _ _ hbx, hW.out]
      rfl
    · exact ownsRow_keep HO.out fun k hk => heap_other _ _ _ _ _ fun e => hne ((Option.some.inj (show some g = some k from hk)).trans e)
  · have hx2 : Ls.lv n G x = false := by simpa using hx
    rw [hx2] at hlv
    have HX := Lib.hid hx2
    clear hx hx2 h
    go_enter Try.func12, Try.ntmps12
    go_wp2_with (go_at_call 15; refine hlv.out.mono ?_; rintro e1 w1 ⟨rfl, rfl⟩; clear hlv)
    go_ret
    have hk : Ls.kill n G x = G := if_neg (by rw [HX.out]; simp)
    exact ⟨by rw [HX.out]; rfl, Below.refl _ _, by rw [hk]; exact H.out, fun _ _ _ => rfl⟩
end Go.Proofs.Ytoppgecajibelaa
