/-
  The program's sets in memory: killAll.
-/
import Derived.Test.YtoppgecajibelaaTe
namespace Go.Proofs.Ytoppgecajibelaa
open Go.RowKit
/-- Bytes, where they lie. -/
def BitsAt (w : World) (u : Value) (L : Nat) (t : List UInt8) (Z : Nat → Prop) : Prop :=
  ∃ a c, u = .slice a L c ∧ t.length = L ∧ (0 < L → ∃ g, a = some ⟨g, 0, none⟩ ∧ Z g ∧ ∀ j, j < L → w.cell? ⟨g, j, none⟩ = some (.int .u8 (((t.getD j 0).toNat : Nat) : Int)))
/-- What killAll answers. -/
def KillAllS (w : World) (B p n : Nat) (v : Value) (L : Nat) (t : List UInt8) (e : Ending) (w' : World) : Prop :=
  Below B w w' ∧ (((∀ g ∈ Ls.ones t (8 * L), g < n) ∧ e = .returned (.bool true) ∧ SetS w' B p n (Ls.ones t (8 * L)) v) ∨ ((¬ ∀ g ∈ Ls.ones t (8 * L), g < n) ∧ e = .returned (.bool false)))
set_option maxRecDepth 100000 in
set_option maxHeartbeats 4000000 in
theorem killAll_any (w : World) (B p n : Nat) (v u : Value) (L : Nat) (t : List UInt8) (h : SetS w B p n [] v) (hL : L ≤ 131072) (ht : BitsAt w u L t (fun g => g ≠ p ∧ v.ownBlock ≠ some g)) :
    Calls Try.prog 28 #[.pointer (some ⟨p, 0, none⟩), u] w (KillAllS w B p n v L t) := by
  obtain ⟨a, c, rfl, htl, hc⟩ := ht
  have HC := Lib.hid hc
  have HT := Lib.hid htl
  have H0 : Hid (SetS w B p n (Ls.ones t 0) v) := h
  have f1 : IntKind.i64.wrap ((L : Int) * 8) = ((8 * L : Nat) : Int) := (IntWalk.i64_in _ (by omega)).trans (by omega)
  have f1' : IntKind.i64.wrap (8 * (L : Int)) = ((8 * L : Nat) : Int) := (IntWalk.i64_in _ (by omega)).trans (by omega)
  obtain ⟨N, hN⟩ : ∃ N, N = 8 * L := ⟨_, rfl⟩
  rw [← hN] at f1 f1'
  have HN := Lib.hid hN
  have hNl : N ≤ 1048576 := by omega
  unfold KillAllS
  rw [← hN]
  clear h hc htl hN
  go_enter Try.func28, Try.ntmps28
  go_wp2_with fail
  go_loopg [9] N (fun g' i wx => ∃ k : Nat, k ≤ N ∧ g' = N - k ∧ i = .int .i64 k ∧ Hid (SetS wx B p n (Ls.ones t k) v) ∧ Hid (∀ g ∈ Ls.ones t k, g < n) ∧ Hid (Below B w wx) ∧ Hid (∀ k, k ≠ p → v.ownBlock ≠ some k → wx.heap[k]? = w.heap[k]?))
  case atStart => exact ⟨0, Nat.zero_le _, rfl, rfl, H0, (fun g hg => by cases hg), Below.refl _ _, fun _ _ _ => rfl⟩
  case round =>
    clear H0 f1 f1'
    obtain ⟨k, hk, rfl, rfl, HR, HG, HB, HK⟩ := hrel
    by_cases hkN : k < N
    · have i2 : (k : Int) < (N : Int) := by omega
      have hkL : k / 8 < L := by have := HN.out; omega
      obtain ⟨g, rfl, hgz, hgc⟩ := HC.out (by omega)
      have hcell := (World.cell?_of_block (w := w) (a := ⟨g, k / 8, none⟩) (HK.out g hgz.1 hgz.2)).trans (hgc (k / 8) hkL)
      have H1 := Lib.hid (isOne_any wr g L c k _ (t.getD (k / 8) 0).toNat_lt hkL (by omega) hcell)
      have hon := Ls.ones_succ t k
      have hbt : Ls.bt t k = (t.getD (k / 8) 0).toNat.testBit (k % 8) := rfl
      rw [← hbt] at H1
      clear hcell hgc hgz hbt
      by_cases hb : Ls.bt t k = true
      · rw [hb] at H1
        rw [if_pos hb] at hon
        have hnm : k ∉ Ls.ones t k := fun q => Nat.lt_irrefl _ ((Ls.ones_mem _ _ _).1 q).1
        have H2 := Lib.hid (killP_any wr B p n _ v HR.out (k : Int))
        by_cases hkn : k < n
        · have hlv : Ls.lv n (Ls.ones t k) (k : Int) = true := decide_eq_true ⟨by omega, by omega, by simpa using hnm⟩
          have hkill : Ls.kill n (Ls.ones t k) (k : Int) = Ls.ones t (k + 1) := by unfold Ls.kill; rw [if_pos hlv, hon, Int.toNat_natCast]
          unfold KillS at H2
          rw [hlv, hkill] at H2
          have HG2 : Hid (∀ g ∈ Ls.ones t (k + 1), g < n) := fun g hg => by
            rw [hon] at hg
            rcases List.mem_append.1 hg with q | q
            · exact HG.out g q
            · simp at q; omega
          have hwk : IntKind.i64.wrap ((k : Int) + 1) = ((k + 1 : Nat) : Int) := (IntWalk.i64_in _ (by omega)).trans (by omega)
          clear hlv hkill hon hnm hb hwk
          go_wp2_with (first
            | (go_at_call 22; refine H1.out.mono ?_; rintro e1 w1 ⟨rfl, rfl⟩; clear H1)
            | (go_at_call 12; refine H2.out.mono ?_; rintro e2 w2 ⟨rfl, hb2, hs2, hk2⟩; have HB2 := Lib.hid (HB.out.trans hb2); have HS2 := Lib.hid hs2; have HK2 := Lib.hid hk2; clear H2 hb2 hs2 hk2))
          go_roundg (N - (k + 1))
          case rel => exact ⟨k + 1, by omega, rfl, by go_num, HS2, HG2, HB2, fun j hj hv => (HK2.out j hj hv).trans (HK.out j hj hv)⟩
          case measure => omega
        · have hlv : Ls.lv n (Ls.ones t k) (k : Int) = false := decide_eq_false fun q => by omega
          unfold KillS at H2
          rw [hlv] at H2
          have hbad : Hid (¬ ∀ g ∈ Ls.ones t N, g < n) := fun q => hkn (q k ((Ls.ones_mem _ _ _).2 ⟨hkN, hb⟩))
          clear hlv hon hnm hb
          go_wp2_with (first
            | (go_at_call 22; refine H1.out.mono ?_; rintro e1 w1 ⟨rfl, rfl⟩; clear H1)
            | (go_at_call 12; refine H2.out.mono ?_; rintro e2 w2 ⟨rfl, hb2, hs2, hk2⟩; have HB2 := Lib.hid (HB.out.trans hb2); clear H2 hb2 hs2 hk2))
          go_ret
          exact ⟨HB2.out, .inr ⟨hbad.out, rfl⟩⟩
      · rw [Bool.not_eq_true] at hb
        rw [hb] at H1
        rw [if_neg (by rw [hb]; simp)] at hon
        have HR2 : Hid (SetS wr B p n (Ls.ones t (k + 1)) v) := by show SetS _ _ _ _ _ _; rw [hon]; exact HR.out
        have HG2 : Hid (∀ g ∈ Ls.ones t (k + 1), g < n) := by show ∀ _, _; rw [hon]; exact HG.out
        clear hon hb
        go_wp2_with (go_at_call 22; refine H1.out.mono ?_; rintro e1 w1 ⟨rfl, rfl⟩; clear H1)
        go_roundg (N - (k + 1))
        case rel => exact ⟨k + 1, by omega, rfl, by go_num, HR2, HG2, HB, HK⟩
        case measure => omega
    · obtain rfl : k = N := by omega
      go_wp2_with fail
      go_ret
      exact ⟨HB.out, .inl ⟨HG.out, rfl, HR.out⟩⟩
end Go.Proofs.Ytoppgecajibelaa
