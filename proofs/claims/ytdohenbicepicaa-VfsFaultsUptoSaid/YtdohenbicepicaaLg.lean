/-
  An armed fault comes at just that change: the walk of the statement VfsFaults (made by gen_xlg.py).
-/
import Derived.Test.YtdohenbicepicaaLc
import Derived.Test.YtdohenbicepicaaVj
import Derived.Test.YtdohenbicepicaaStrsF
import Derived.OpenShut
namespace Go.Proofs.Ytdohenbicepicaa
open Go.RowKit Go.Maps

namespace Fa
abbrev sB : ByteArray := ⟨#[98]⟩
theorem okB : Vf.okN sB = true := by decide
def DF (want : ByteArray) (a : Int) (dn : Bool) (st : Nat) (e : Int) : Vf.Dk := ⟨[⟨1, want, 0⟩], [⟨sA, 1⟩], [], 1, st, a, e, dn⟩
theorem arm_ok (n e : Int) (hn : 0 ≤ n) (he : e = 13 ∨ e = 14 ∨ e = 15) : Vf.arm aw1 n e = (0, DF ByteArray.empty n false 1 e) := by
  unfold Vf.arm
  rw [if_neg (by omega)]
  rfl
theorem arm_no (n e : Int) (hn : n < 0) : Vf.arm aw1 n e = (1, aw1) := by
  unfold Vf.arm
  rw [if_pos (by omega)]
theorem app_ok (want t : ByteArray) (a : Int) (st : Nat) (e : Int) {a' : Int} (ha : a ≠ 0) (h' : a' = if 0 < a then a - 1 else a) : Vf.append (DF want a false st e) sA t = (0, DF (want ++ t) a' false (st + 1) e) := by
  subst h'
  exact (Vf.change_ok rfl ha okA (find1 sA 1) (by decide)).trans rfl
theorem app_fault (want t : ByteArray) (st : Nat) (e : Int) (he : e ≠ 0) {dn : Bool} (hd : decide (e = 15) = dn) : Vf.append (DF want 0 false st e) sA t = (e, DF want (-1) dn st e) := by
  subst hd
  exact (Vf.change_fault rfl rfl he okA (find1 sA 1) (by decide)).trans rfl
theorem app_down (want t : ByteArray) (a : Int) (st : Nat) (e : Int) : Vf.append (DF want a true st e) sA t = (15, DF want a true st e) := by
  unfold Vf.append Vf.change Vf.first
  rw [okA]
  rfl
theorem cr_down (want : ByteArray) (a : Int) (st : Nat) (e : Int) : Vf.create (DF want a true st e) sB = (15, DF want a true st e) := by
  unfold Vf.create Vf.first
  rw [okB]
  rfl
theorem cr_ok (want : ByteArray) (st : Nat) (e : Int) : (Vf.create (DF want (-1) false st e) sB).1 = 0 := by
  rw [Vf.create_ok (D := DF want (-1) false st e) rfl (show (-1 : Int) ≠ 0 by decide) okB]
theorem rd_ok (want : ByteArray) (st : Nat) (e : Int) : Vf.read (DF want (-1) false st e) sA = (want, 0) := by
  unfold Vf.read Vf.first
  rw [okA]
  have hf : Vf.find (DF want (-1) false st e).names sA = 1 := find1 _ _
  simp only [hf]
  rfl
end Fa

set_option maxRecDepth 100000 in
set_option maxHeartbeats 4000000 in
theorem vfsFaults_neg (x : Option Addr) (len cap : Nat) (n wz : Int) (w : World) (hn : n < 0) (hn1 : n ≤ 9223372036854775807) (hq : wz.tmod 3 = 0 ∨ wz.tmod 3 = 1 ∨ wz.tmod 3 = 2) : Calls Try.prog 5 #[.slice x len cap, .int .i64 n, .int .u8 wz] w fun e w' => e = .returned (.bool true) ∧ Below w.heap.size w w' := by
  rcases hq with hq | hq | hq
  · go_enter Try.func5, Try.ntmps5
    go_wp2_with fail
    refine (newSt w w (Below.refl _ _)).mono ?_
    rintro e1 w1 ⟨p, rfl, h⟩
    have H1 := Lib.hid h; clear h
    go_wp2_with fail
    refine (awake_any _).mono ?_
    rintro e1 w2 ⟨rfl, h⟩
    have H2 := Lib.hid ((H1.out.keep ((Below.refl _ _).alloc (Nat.le_refl _) _)).keep h); clear h H1
    go_wp2_with fail
    refine (H2.out.create_to (by omega) sA (by decide) aw1_eq).mono ?_
    rintro e1 w3 ⟨rfl, h⟩
    have H3 := Lib.hid h; clear h H2
    go_wp2_with fail
    refine (H3.out.arm_to n _ hn1 (Fa.arm_no n _ hn)).mono ?_
    rintro e1 w4 ⟨rfl, h⟩
    have H4 := Lib.hid h; clear h H3
    go_wp2_with fail
    refine (H4.out.arm_to n _ hn1 (Fa.arm_no n _ hn)).mono ?_
    rintro e1 w5 ⟨rfl, h⟩
    have H5 := Lib.hid h; clear h H4
    go_wp2_with fail
    go_ret
    exact ⟨rfl, H5.out.2.2⟩
  · go_enter Try.func5, Try.ntmps5
    go_wp2_with fail
    refine (newSt w w (Below.refl _ _)).mono ?_
    rintro e1 w1 ⟨p, rfl, h⟩
    have H1 := Lib.hid h; clear h
    go_wp2_with fail
    refine (awake_any _).mono ?_
    rintro e1 w2 ⟨rfl, h⟩
    have H2 := Lib.hid ((H1.out.keep ((Below.refl _ _).alloc (Nat.le_refl _) _)).keep h); clear h H1
    go_wp2_with fail
    refine (H2.out.create_to (by omega) sA (by decide) aw1_eq).mono ?_
    rintro e1 w3 ⟨rfl, h⟩
    have H3 := Lib.hid h; clear h H2
    go_wp2_with fail
    refine (H3.out.arm_to n _ hn1 (Fa.arm_no n _ hn)).mono ?_
    rintro e1 w4 ⟨rfl, h⟩
    have H4 := Lib.hid h; clear h H3
    go_wp2_with fail
    refine (H4.out.arm_to n _ hn1 (Fa.arm_no n _ hn)).mono ?_
    rintro e1 w5 ⟨rfl, h⟩
    have H5 := Lib.hid h; clear h H4
    go_wp2_with fail
    go_ret
    exact ⟨rfl, H5.out.2.2⟩
  · go_enter Try.func5, Try.ntmps5
    go_wp2_with fail
    refine (newSt w w (Below.refl _ _)).mono ?_
    rintro e1 w1 ⟨p, rfl, h⟩
    have H1 := Lib.hid h; clear h
    go_wp2_with fail
    refine (awake_any _).mono ?_
    rintro e1 w2 ⟨rfl, h⟩
    have H2 := Lib.hid ((H1.out.keep ((Below.refl _ _).alloc (Nat.le_refl _) _)).keep h); clear h H1
    go_wp2_with fail
    refine (H2.out.create_to (by omega) sA (by decide) aw1_eq).mono ?_
    rintro e1 w3 ⟨rfl, h⟩
    have H3 := Lib.hid h; clear h H2
    go_wp2_with fail
    refine (H3.out.arm_to n _ hn1 (Fa.arm_no n _ hn)).mono ?_
    rintro e1 w4 ⟨rfl, h⟩
    have H4 := Lib.hid h; clear h H3
    go_wp2_with fail
    refine (H4.out.arm_to n _ hn1 (Fa.arm_no n _ hn)).mono ?_
    rintro e1 w5 ⟨rfl, h⟩
    have H5 := Lib.hid h; clear h H4
    go_wp2_with fail
    go_ret
    exact ⟨rfl, H5.out.2.2⟩

set_option maxRecDepth 100000 in
set_option maxHeartbeats 16000000 in
theorem vfsFaults_14 (x : Option Addr) (len cap : Nat) (ss : List ByteArray) (n wz : Int) (w : World) (hn : 0 ≤ n) (hn1 : n ≤ 9223372036854775807) (hq : wz.tmod 3 = 0) (hs : Hid (frame.IsStrs w x len ss)) (hz : Hid (∀ s ∈ ss, s.size ≤ 1048576)) (hlen : len ≤ 9223372036854775807) : Calls Try.prog 5 #[.slice x len cap, .int .i64 n, .int .u8 wz] w fun e w' => e = .returned (.bool true) ∧ Below w.heap.size w w' := by
  go_enter Try.func5, Try.ntmps5
  go_wp2_with fail
  refine (newSt w w (Below.refl _ _)).mono ?_
  rintro e1 w1 ⟨p, rfl, h⟩
  have H1 := Lib.hid h; clear h
  go_wp2_with fail
  refine (awake_any _).mono ?_
  rintro e1 w2 ⟨rfl, h⟩
  have H2 := Lib.hid ((H1.out.keep ((Below.refl _ _).alloc (Nat.le_refl _) _)).keep h); clear h H1
  go_wp2_with fail
  refine (H2.out.create_to (by omega) sA (by decide) aw1_eq).mono ?_
  rintro e1 w3 ⟨rfl, h⟩
  have H3 := Lib.hid h; clear h H2
  go_wp2_with fail
  refine (H3.out.arm_to n _ hn1 (Fa.arm_ok n 14 hn (by omega))).mono ?_
  rintro e1 w4 ⟨rfl, h⟩
  have H4 := Lib.hid h; clear h H3
  go_wp2_with fail
  go_loopg [9, 10] len (fun g wv iv wx => ∃ (k st : Nat) (want : ByteArray) (a : Int) (dn : Bool), k ≤ len ∧ k ≤ 80 ∧ g = len - k ∧ iv = .int .i64 (k : Int) ∧ wv = .string want ∧ want.size ≤ 1048576 * k ∧ ((k : Int) ≤ n ∧ a = n - (k : Int) ∧ dn = false ∨ n < (k : Int) ∧ a = -1 ∧ dn = false) ∧ St w wx p (Fa.DF want a dn st 14) (k + 1))
  case atStart => exact ⟨0, 1, ByteArray.empty, n, false, by omega, by omega, by omega, rfl, rfl, by simp, .inl ⟨by omega, by omega, rfl⟩, H4.out⟩
  case round =>
    clear H4
    obtain ⟨k, st, want, a, dn, hk, hk8, rfl, rfl, rfl, hws, hrel, hst⟩ := hrel
    have H5 := Lib.hid hst
    clear hst
    by_cases hlt : k < len ∧ k < 80
    · obtain ⟨hl1, hl2⟩ := hlt
      have i1 : (k : Int) < (len : Int) := by omega
      have i2 : (k : Int) < 80 := by omega
      have hcell : Hid (∃ b off t, x = some ⟨b, off, none⟩ ∧ t.size ≤ 1048576 ∧ ∀ wx, Below w.heap.size w wx → wx.cell? ⟨b, off + k, none⟩ = some (.string t)) := by
        rcases hs.out with ⟨h0, _⟩ | ⟨b, off, h1, h2, h3, h4⟩
        · omega
        · have hk' : k < ss.length := by omega
          exact ⟨b, off, ss[k], h1, hz.out _ (List.getElem_mem hk'), fun wx hb => (hb.cell (p := ⟨b, off + k, none⟩) h2).trans (h4 k hk')⟩
      obtain ⟨b, off, t, rfl, ht, hc⟩ := hcell.out
      have HC := Lib.hid hc
      have c1 := HC.out wr H5.out.2.2
      have hsz : (want ++ t).size ≤ 1048576 * (k + 1) := by rw [ByteArray.size_append]; omega
      clear hc hcell
      rcases hrel with ⟨hkn, rfl, rfl⟩ | ⟨hkn, rfl, rfl⟩
      · by_cases hke : (k : Int) = n
        · subst hke
          have hsub : (k : Int) - (k : Int) = 0 := by omega
          rw [hsub] at H5
          go_wp2_with fail
          refine (H5.out.append_to (by omega) sA t (by decide) ht (Fa.app_fault want t st 14 (by decide) (dn := false) rfl)).mono ?_
          rintro e1 w6 ⟨rfl, h⟩
          have H6 := Lib.hid h; clear h H5 c1
          go_wp2_with fail
          refine H6.out.down.mono ?_
          rintro e1 w7 ⟨rfl, rfl⟩
          go_wp2_with fail
          go_roundg (len - (k + 1))
          case rel => exact ⟨k + 1, st, want, -1, false, by omega, by omega, rfl, by go_num, rfl, by omega, .inr ⟨by omega, rfl, rfl⟩, H6.out⟩
          case measure => omega
        · go_wp2_with fail
          refine (H5.out.append_to (by omega) sA t (by decide) ht (Fa.app_ok want t (n - (k : Int)) st 14 (a' := n - ((k + 1 : Nat) : Int)) (by omega) (by split <;> omega))).mono ?_
          rintro e1 w6 ⟨rfl, h⟩
          have H6 := Lib.hid h; clear h H5 c1
          have c1 := HC.out w6 H6.out.2.2
          have j1 : ¬ n < (k : Int) := by omega
          go_wp2_with fail
          go_roundg (len - (k + 1))
          case rel => exact ⟨k + 1, st + 1, want ++ t, n - ((k + 1 : Nat) : Int), false, by omega, by omega, rfl, by go_num, rfl, hsz, .inl ⟨by omega, rfl, rfl⟩, H6.out⟩
          case measure => omega
      · have hke : ¬ (k : Int) = n := by omega
        go_wp2_with fail
        refine (H5.out.append_to (by omega) sA t (by decide) ht (Fa.app_ok want t (-1) st 14 (a' := -1) (by omega) (by split <;> omega))).mono ?_
        rintro e1 w6 ⟨rfl, h⟩
        have H6 := Lib.hid h; clear h H5 c1
        have c1 := HC.out w6 H6.out.2.2
        go_wp2_with fail
        go_roundg (len - (k + 1))
        case rel => exact ⟨k + 1, st + 1, want ++ t, -1, false, by omega, by omega, rfl, by go_num, rfl, by omega, .inr ⟨by omega, rfl, rfl⟩, H6.out⟩
        case measure => omega
    · have hend : Hid ((k : Int) = len ∨ (k : Int) < (len : Int) ∧ (k : Int) = 80) := by show _ ∨ _; omega
      clear hs hz
      have hdn : (a = n - (k : Int) ∧ (k : Int) ≤ n ∧ dn = false) ∨ (a = -1 ∧ n < (k : Int) ∧ dn = false) := by
        rcases hrel with h | h
        · exact .inl ⟨h.2.1, h.1, h.2.2⟩
        · exact .inr ⟨h.2.1, h.1, h.2.2⟩
      clear hrel
      rcases hend.out with hl | ⟨hl, hl'⟩
      all_goals
        rcases hdn with ⟨rfl, hj, rfl⟩ | ⟨rfl, hj, rfl⟩
        · go_wp2_with fail
          refine H5.out.down.mono ?_
          rintro e1 w6 ⟨rfl, rfl⟩
          go_wp2_with fail
          refine H5.out.calm.mono ?_
          rintro e1 w7 ⟨rfl, h⟩
          have h : St w w7 p (Fa.DF want (-1) false st 14) (k + 1) := h
          have H7 := Lib.hid h; clear h H5
          go_wp2_with fail
          have hr := H7.out.read sA (by decide)
          rw [Fa.rd_ok] at hr
          refine hr.mono ?_
          rintro e1 w8 ⟨rfl, h⟩
          have H8 := Lib.hid h; clear h H7 hr
          have he : (want.toList == want.toList) = true := by simp
          go_wp2_with fail
          have hr := H8.out.create (by omega) Fa.sB (by decide)
          rw [Fa.cr_ok] at hr
          refine hr.mono ?_
          rintro e1 w9 ⟨rfl, h⟩
          have H9 := Lib.hid h.2.2; clear h H8 hr
          go_wp2_with fail
          go_ret
          exact ⟨rfl, H9.out⟩
        · go_wp2_with fail
          refine H5.out.down.mono ?_
          rintro e1 w6 ⟨rfl, rfl⟩
          go_wp2_with fail
          refine H5.out.calm.mono ?_
          rintro e1 w7 ⟨rfl, h⟩
          have h : St w w7 p (Fa.DF want (-1) false st 14) (k + 1) := h
          have H7 := Lib.hid h; clear h H5
          go_wp2_with fail
          have hr := H7.out.read sA (by decide)
          rw [Fa.rd_ok] at hr
          refine hr.mono ?_
          rintro e1 w8 ⟨rfl, h⟩
          have H8 := Lib.hid h; clear h H7 hr
          have he : (want.toList == want.toList) = true := by simp
          go_wp2_with fail
          have hr := H8.out.create (by omega) Fa.sB (by decide)
          rw [Fa.cr_ok] at hr
          refine hr.mono ?_
          rintro e1 w9 ⟨rfl, h⟩
          have H9 := Lib.hid h.2.2; clear h H8 hr
          go_wp2_with fail
          go_ret
          exact ⟨rfl, H9.out⟩

set_option maxRecDepth 100000 in
set_option maxHeartbeats 16000000 in
theorem vfsFaults_13 (x : Option Addr) (len cap : Nat) (ss : List ByteArray) (n wz : Int) (w : World) (hn : 0 ≤ n) (hn1 : n ≤ 9223372036854775807) (hq : wz.tmod 3 = 1) (hs : Hid (frame.IsStrs w x len ss)) (hz : Hid (∀ s ∈ ss, s.size ≤ 1048576)) (hlen : len ≤ 9223372036854775807) : Calls Try.prog 5 #[.slice x len cap, .int .i64 n, .int .u8 wz] w fun e w' => e = .returned (.bool true) ∧ Below w.heap.size w w' := by
  go_enter Try.func5, Try.ntmps5
  go_wp2_with fail
  refine (newSt w w (Below.refl _ _)).mono ?_
  rintro e1 w1 ⟨p, rfl, h⟩
  have H1 := Lib.hid h; clear h
  go_wp2_with fail
  refine (awake_any _).mono ?_
  rintro e1 w2 ⟨rfl, h⟩
  have H2 := Lib.hid ((H1.out.keep ((Below.refl _ _).alloc (Nat.le_refl _) _)).keep h); clear h H1
  go_wp2_with fail
  refine (H2.out.create_to (by omega) sA (by decide) aw1_eq).mono ?_
  rintro e1 w3 ⟨rfl, h⟩
  have H3 := Lib.hid h; clear h H2
  go_wp2_with fail
  refine (H3.out.arm_to n _ hn1 (Fa.arm_ok n 13 hn (by omega))).mono ?_
  rintro e1 w4 ⟨rfl, h⟩
  have H4 := Lib.hid h; clear h H3
  go_wp2_with fail
  go_loopg [9, 10] len (fun g wv iv wx => ∃ (k st : Nat) (want : ByteArray) (a : Int) (dn : Bool), k ≤ len ∧ k ≤ 80 ∧ g = len - k ∧ iv = .int .i64 (k : Int) ∧ wv = .string want ∧ want.size ≤ 1048576 * k ∧ ((k : Int) ≤ n ∧ a = n - (k : Int) ∧ dn = false ∨ n < (k : Int) ∧ a = -1 ∧ dn = false) ∧ St w wx p (Fa.DF want a dn st 13) (k + 1))
  case atStart => exact ⟨0, 1, ByteArray.empty, n, false, by omega, by omega, by omega, rfl, rfl, by simp, .inl ⟨by omega, by omega, rfl⟩, H4.out⟩
  case round =>
    clear H4
    obtain ⟨k, st, want, a, dn, hk, hk8, rfl, rfl, rfl, hws, hrel, hst⟩ := hrel
    have H5 := Lib.hid hst
    clear hst
    by_cases hlt : k < len ∧ k < 80
    · obtain ⟨hl1, hl2⟩ := hlt
      have i1 : (k : Int) < (len : Int) := by omega
      have i2 : (k : Int) < 80 := by omega
      have hcell : Hid (∃ b off t, x = some ⟨b, off, none⟩ ∧ t.size ≤ 1048576 ∧ ∀ wx, Below w.heap.size w wx → wx.cell? ⟨b, off + k, none⟩ = some (.string t)) := by
        rcases hs.out with ⟨h0, _⟩ | ⟨b, off, h1, h2, h3, h4⟩
        · omega
        · have hk' : k < ss.length := by omega
          exact ⟨b, off, ss[k], h1, hz.out _ (List.getElem_mem hk'), fun wx hb => (hb.cell (p := ⟨b, off + k, none⟩) h2).trans (h4 k hk')⟩
      obtain ⟨b, off, t, rfl, ht, hc⟩ := hcell.out
      have HC := Lib.hid hc
      have c1 := HC.out wr H5.out.2.2
      have hsz : (want ++ t).size ≤ 1048576 * (k + 1) := by rw [ByteArray.size_append]; omega
      clear hc hcell
      rcases hrel with ⟨hkn, rfl, rfl⟩ | ⟨hkn, rfl, rfl⟩
      · by_cases hke : (k : Int) = n
        · subst hke
          have hsub : (k : Int) - (k : Int) = 0 := by omega
          rw [hsub] at H5
          go_wp2_with fail
          refine (H5.out.append_to (by omega) sA t (by decide) ht (Fa.app_fault want t st 13 (by decide) (dn := false) rfl)).mono ?_
          rintro e1 w6 ⟨rfl, h⟩
          have H6 := Lib.hid h; clear h H5 c1
          go_wp2_with fail
          refine H6.out.down.mono ?_
          rintro e1 w7 ⟨rfl, rfl⟩
          go_wp2_with fail
          go_roundg (len - (k + 1))
          case rel => exact ⟨k + 1, st, want, -1, false, by omega, by omega, rfl, by go_num, rfl, by omega, .inr ⟨by omega, rfl, rfl⟩, H6.out⟩
          case measure => omega
        · go_wp2_with fail
          refine (H5.out.append_to (by omega) sA t (by decide) ht (Fa.app_ok want t (n - (k : Int)) st 13 (a' := n - ((k + 1 : Nat) : Int)) (by omega) (by split <;> omega))).mono ?_
          rintro e1 w6 ⟨rfl, h⟩
          have H6 := Lib.hid h; clear h H5 c1
          have c1 := HC.out w6 H6.out.2.2
          have j1 : ¬ n < (k : Int) := by omega
          go_wp2_with fail
          go_roundg (len - (k + 1))
          case rel => exact ⟨k + 1, st + 1, want ++ t, n - ((k + 1 : Nat) : Int), false, by omega, by omega, rfl, by go_num, rfl, hsz, .inl ⟨by omega, rfl, rfl⟩, H6.out⟩
          case measure => omega
      · have hke : ¬ (k : Int) = n := by omega
        go_wp2_with fail
        refine (H5.out.append_to (by omega) sA t (by decide) ht (Fa.app_ok want t (-1) st 13 (a' := -1) (by omega) (by split <;> omega))).mono ?_
        rintro e1 w6 ⟨rfl, h⟩
        have H6 := Lib.hid h; clear h H5 c1
        have c1 := HC.out w6 H6.out.2.2
        go_wp2_with fail
        go_roundg (len - (k + 1))
        case rel => exact ⟨k + 1, st + 1, want ++ t, -1, false, by omega, by omega, rfl, by go_num, rfl, by omega, .inr ⟨by omega, rfl, rfl⟩, H6.out⟩
        case measure => omega
    · have hend : Hid ((k : Int) = len ∨ (k : Int) < (len : Int) ∧ (k : Int) = 80) := by show _ ∨ _; omega
      clear hs hz
      have hdn : (a = n - (k : Int) ∧ (k : Int) ≤ n ∧ dn = false) ∨ (a = -1 ∧ n < (k : Int) ∧ dn = false) := by
        rcases hrel with h | h
        · exact .inl ⟨h.2.1, h.1, h.2.2⟩
        · exact .inr ⟨h.2.1, h.1, h.2.2⟩
      clear hrel
      rcases hend.out with hl | ⟨hl, hl'⟩
      all_goals
        rcases hdn with ⟨rfl, hj, rfl⟩ | ⟨rfl, hj, rfl⟩
        · go_wp2_with fail
          refine H5.out.down.mono ?_
          rintro e1 w6 ⟨rfl, rfl⟩
          go_wp2_with fail
          refine H5.out.calm.mono ?_
          rintro e1 w7 ⟨rfl, h⟩
          have h : St w w7 p (Fa.DF want (-1) false st 13) (k + 1) := h
          have H7 := Lib.hid h; clear h H5
          go_wp2_with fail
          have hr := H7.out.read sA (by decide)
          rw [Fa.rd_ok] at hr
          refine hr.mono ?_
          rintro e1 w8 ⟨rfl, h⟩
          have H8 := Lib.hid h; clear h H7 hr
          have he : (want.toList == want.toList) = true := by simp
          go_wp2_with fail
          have hr := H8.out.create (by omega) Fa.sB (by decide)
          rw [Fa.cr_ok] at hr
          refine hr.mono ?_
          rintro e1 w9 ⟨rfl, h⟩
          have H9 := Lib.hid h.2.2; clear h H8 hr
          go_wp2_with fail
          go_ret
          exact ⟨rfl, H9.out⟩
        · go_wp2_with fail
          refine H5.out.down.mono ?_
          rintro e1 w6 ⟨rfl, rfl⟩
          go_wp2_with fail
          refine H5.out.calm.mono ?_
          rintro e1 w7 ⟨rfl, h⟩
          have h : St w w7 p (Fa.DF want (-1) false st 13) (k + 1) := h
          have H7 := Lib.hid h; clear h H5
          go_wp2_with fail
          have hr := H7.out.read sA (by decide)
          rw [Fa.rd_ok] at hr
          refine hr.mono ?_
          rintro e1 w8 ⟨rfl, h⟩
          have H8 := Lib.hid h; clear h H7 hr
          have he : (want.toList == want.toList) = true := by simp
          go_wp2_with fail
          have hr := H8.out.create (by omega) Fa.sB (by decide)
          rw [Fa.cr_ok] at hr
          refine hr.mono ?_
          rintro e1 w9 ⟨rfl, h⟩
          have H9 := Lib.hid h.2.2; clear h H8 hr
          go_wp2_with fail
          go_ret
          exact ⟨rfl, H9.out⟩

set_option maxRecDepth 100000 in
set_option maxHeartbeats 16000000 in
theorem vfsFaults_15 (x : Option Addr) (len cap : Nat) (ss : List ByteArray) (n wz : Int) (w : World) (hn : 0 ≤ n) (hn1 : n ≤ 9223372036854775807) (hq : wz.tmod 3 = 2) (hs : Hid (frame.IsStrs w x len ss)) (hz : Hid (∀ s ∈ ss, s.size ≤ 1048576)) (hlen : len ≤ 9223372036854775807) : Calls Try.prog 5 #[.slice x len cap, .int .i64 n, .int .u8 wz] w fun e w' => e = .returned (.bool true) ∧ Below w.heap.size w w' := by
  go_enter Try.func5, Try.ntmps5
  go_wp2_with fail
  refine (newSt w w (Below.refl _ _)).mono ?_
  rintro e1 w1 ⟨p, rfl, h⟩
  have H1 := Lib.hid h; clear h
  go_wp2_with fail
  refine (awake_any _).mono ?_
  rintro e1 w2 ⟨rfl, h⟩
  have H2 := Lib.hid ((H1.out.keep ((Below.refl _ _).alloc (Nat.le_refl _) _)).keep h); clear h H1
  go_wp2_with fail
  refine (H2.out.create_to (by omega) sA (by decide) aw1_eq).mono ?_
  rintro e1 w3 ⟨rfl, h⟩
  have H3 := Lib.hid h; clear h H2
  go_wp2_with fail
  refine (H3.out.arm_to n _ hn1 (Fa.arm_ok n 15 hn (by omega))).mono ?_
  rintro e1 w4 ⟨rfl, h⟩
  have H4 := Lib.hid h; clear h H3
  go_wp2_with fail
  go_loopg [9, 10] len (fun g wv iv wx => ∃ (k st : Nat) (want : ByteArray) (a : Int) (dn : Bool), k ≤ len ∧ k ≤ 80 ∧ g = len - k ∧ iv = .int .i64 (k : Int) ∧ wv = .string want ∧ want.size ≤ 1048576 * k ∧ ((k : Int) ≤ n ∧ a = n - (k : Int) ∧ dn = false ∨ n < (k : Int) ∧ a = -1 ∧ dn = true) ∧ St w wx p (Fa.DF want a dn st 15) (k + 1))
  case atStart => exact ⟨0, 1, ByteArray.empty, n, false, by omega, by omega, by omega, rfl, rfl, by simp, .inl ⟨by omega, by omega, rfl⟩, H4.out⟩
  case round =>
    clear H4
    obtain ⟨k, st, want, a, dn, hk, hk8, rfl, rfl, rfl, hws, hrel, hst⟩ := hrel
    have H5 := Lib.hid hst
    clear hst
    by_cases hlt : k < len ∧ k < 80
    · obtain ⟨hl1, hl2⟩ := hlt
      have i1 : (k : Int) < (len : Int) := by omega
      have i2 : (k : Int) < 80 := by omega
      have hcell : Hid (∃ b off t, x = some ⟨b, off, none⟩ ∧ t.size ≤ 1048576 ∧ ∀ wx, Below w.heap.size w wx → wx.cell? ⟨b, off + k, none⟩ = some (.string t)) := by
        rcases hs.out with ⟨h0, _⟩ | ⟨b, off, h1, h2, h3, h4⟩
        · omega
        · have hk' : k < ss.length := by omega
          exact ⟨b, off, ss[k], h1, hz.out _ (List.getElem_mem hk'), fun wx hb => (hb.cell (p := ⟨b, off + k, none⟩) h2).trans (h4 k hk')⟩
      obtain ⟨b, off, t, rfl, ht, hc⟩ := hcell.out
      have HC := Lib.hid hc
      have c1 := HC.out wr H5.out.2.2
      have hsz : (want ++ t).size ≤ 1048576 * (k + 1) := by rw [ByteArray.size_append]; omega
      clear hc hcell
      rcases hrel with ⟨hkn, rfl, rfl⟩ | ⟨hkn, rfl, rfl⟩
      · by_cases hke : (k : Int) = n
        · subst hke
          have hsub : (k : Int) - (k : Int) = 0 := by omega
          rw [hsub] at H5
          go_wp2_with fail
          refine (H5.out.append_to (by omega) sA t (by decide) ht (Fa.app_fault want t st 15 (by decide) (dn := true) rfl)).mono ?_
          rintro e1 w6 ⟨rfl, h⟩
          have H6 := Lib.hid h; clear h H5 c1
          go_wp2_with fail
          refine H6.out.down.mono ?_
          rintro e1 w7 ⟨rfl, rfl⟩
          go_wp2_with fail
          go_roundg (len - (k + 1))
          case rel => exact ⟨k + 1, st, want, -1, true, by omega, by omega, rfl, by go_num, rfl, by omega, .inr ⟨by omega, rfl, rfl⟩, H6.out⟩
          case measure => omega
        · go_wp2_with fail
          refine (H5.out.append_to (by omega) sA t (by decide) ht (Fa.app_ok want t (n - (k : Int)) st 15 (a' := n - ((k + 1 : Nat) : Int)) (by omega) (by split <;> omega))).mono ?_
          rintro e1 w6 ⟨rfl, h⟩
          have H6 := Lib.hid h; clear h H5 c1
          have c1 := HC.out w6 H6.out.2.2
          have j1 : ¬ n < (k : Int) := by omega
          go_wp2_with fail
          go_roundg (len - (k + 1))
          case rel => exact ⟨k + 1, st + 1, want ++ t, n - ((k + 1 : Nat) : Int), false, by omega, by omega, rfl, by go_num, rfl, hsz, .inl ⟨by omega, rfl, rfl⟩, H6.out⟩
          case measure => omega
      · have hke : ¬ (k : Int) = n := by omega
        go_wp2_with fail
        refine (H5.out.append_to (by omega) sA t (by decide) ht (Fa.app_down want t (-1) st 15)).mono ?_
        rintro e1 w6 ⟨rfl, h⟩
        have H6 := Lib.hid h; clear h H5 c1
        have c1 := HC.out w6 H6.out.2.2
        go_wp2_with fail
        go_roundg (len - (k + 1))
        case rel => exact ⟨k + 1, st, want, -1, true, by omega, by omega, rfl, by go_num, rfl, by omega, .inr ⟨by omega, rfl, rfl⟩, H6.out⟩
        case measure => omega
    · have hend : Hid ((k : Int) = len ∨ (k : Int) < (len : Int) ∧ (k : Int) = 80) := by show _ ∨ _; omega
      clear hs hz
      have hdn : (a = n - (k : Int) ∧ (k : Int) ≤ n ∧ dn = false) ∨ (a = -1 ∧ n < (k : Int) ∧ dn = true) := by
        rcases hrel with h | h
        · exact .inl ⟨h.2.1, h.1, h.2.2⟩
        · exact .inr ⟨h.2.1, h.1, h.2.2⟩
      clear hrel
      rcases hend.out with hl | ⟨hl, hl'⟩
      all_goals
        rcases hdn with ⟨rfl, hj, rfl⟩ | ⟨rfl, hj, rfl⟩
        · go_wp2_with fail
          refine H5.out.down.mono ?_
          rintro e1 w6 ⟨rfl, rfl⟩
          go_wp2_with fail
          refine H5.out.calm.mono ?_
          rintro e1 w7 ⟨rfl, h⟩
          have h : St w w7 p (Fa.DF want (-1) false st 15) (k + 1) := h
          have H7 := Lib.hid h; clear h H5
          go_wp2_with fail
          have hr := H7.out.read sA (by decide)
          rw [Fa.rd_ok] at hr
          refine hr.mono ?_
          rintro e1 w8 ⟨rfl, h⟩
          have H8 := Lib.hid h; clear h H7 hr
          have he : (want.toList == want.toList) = true := by simp
          go_wp2_with fail
          have hr := H8.out.create (by omega) Fa.sB (by decide)
          rw [Fa.cr_ok] at hr
          refine hr.mono ?_
          rintro e1 w9 ⟨rfl, h⟩
          have H9 := Lib.hid h.2.2; clear h H8 hr
          go_wp2_with fail
          go_ret
          exact ⟨rfl, H9.out⟩
        · go_wp2_with fail
          refine H5.out.down.mono ?_
          rintro e1 w6 ⟨rfl, rfl⟩
          go_wp2_with fail
          refine (H5.out.list (by omega)).mono ?_
          rintro e1 w7 ⟨xa, xc, he, hx, h⟩
          have he : e1 = .returned (.slice xa 0 xc) := he
          subst he
          have H7 := Lib.hid h; clear h H5 hx
          go_wp2_with fail
          refine (H7.out.create_to (by omega) Fa.sB (by decide) (Fa.cr_down want (-1) st 15)).mono ?_
          rintro e1 w8 ⟨rfl, h⟩
          have H8 := Lib.hid h; clear h H7
          go_wp2_with fail
          refine (H8.out.syncDir_to (by omega) (v := 15) (D' := Fa.DF want (-1) true st 15) rfl).mono ?_
          rintro e1 w9 ⟨rfl, h⟩
          have H9 := Lib.hid h; clear h H8
          go_wp2_with fail
          refine (H9.out.restart (by omega) 0 (by omega)).mono ?_
          rintro e1 w10 ⟨he, h⟩
          have he : e1 = .returned (.int .i64 0) := he
          subst he
          have H10 := Lib.hid h; clear h H9
          go_wp2_with fail
          have hr := H10.out.down
          have hd : (Vf.restart (Fa.DF want (-1) true st 15) 0).2.down = false := rfl
          rw [hd] at hr
          refine hr.mono ?_
          rintro e1 w11 ⟨rfl, rfl⟩
          go_wp2_with fail
          go_ret
          exact ⟨rfl, H10.out.2.2⟩

theorem vfsFaults_walk (x : Option Addr) (len cap : Nat) (ss : List ByteArray) (n wz : Int) (w : World) (hn : (Lit.int .i64 n).wf = true) (hw : (Lit.int .u8 wz).wf = true) (hs : frame.IsStrs w x len ss) (hz : ∀ s ∈ ss, s.size ≤ 1048576) (hlen : len ≤ 9223372036854775807) : Calls Try.prog 5 #[.slice x len cap, .int .i64 n, .int .u8 wz] w fun e w' => e = .returned (.bool true) ∧ Below w.heap.size w w' := by
  have h1 := bounds_i64 hn
  have h2 := bounds_u8 hw
  have h3 : wz.tmod 3 = 0 ∨ wz.tmod 3 = 1 ∨ wz.tmod 3 = 2 := by
    rw [Int.tmod_eq_emod_of_nonneg (by omega)]
    omega
  by_cases h0 : n < 0
  · exact vfsFaults_neg x len cap n wz w h0 h1.2 h3
  · rcases h3 with h3 | h3 | h3
    · exact vfsFaults_14 x len cap ss n wz w (by omega) h1.2 h3 hs hz hlen
    · exact vfsFaults_13 x len cap ss n wz w (by omega) h1.2 h3 hs hz hlen
    · exact vfsFaults_15 x len cap ss n wz w (by omega) h1.2 h3 hs hz hlen
end Go.Proofs.Ytdohenbicepicaa
