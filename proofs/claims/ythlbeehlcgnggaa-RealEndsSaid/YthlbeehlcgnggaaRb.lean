/-
  '[]byte(s)' in a new block; whether a text is all digits; the first point of a text.
-/
import Derived.Test.YthlbeehlcgnggaaRl
import Derived.Test.YthlbeehlcgnggaaRp
import Derived.Test.YthlbeehlcgnggaaShelf
import Derived.Laws.IdiomStrings
import Derived.Deep.LoopGhost
import Derived.OwnWalk
import Derived.Lib.CutLaws
namespace Go.Proofs.Ythlbeehlcgnggaa
open Go.RowKit

theorem belowN {B : Nat} {a w : World} (h : Below B a w) (n : Nat) : Below B a (w.drewN n) := h.trans ⟨rfl, rfl, rfl, Nat.le_refl _, fun _ _ => rfl⟩

theorem row_get (s : ByteArray) (cap p : Nat) (hp : p < s.size) : (bytesRow s cap)[p]? = some (.int .u8 s[p].toNat) := by
  unfold bytesRow
  rw [Array.getElem?_append_left (by simpa using hp)]
  have hp2 : p < s.data.size := hp
  rw [Array.getElem?_map, Array.getElem?_eq_getElem hp2]
  rfl
/-- The bytes of a text, in a new block. -/
theorem bytes_new (s : ByteArray) (w : World) : ∃ cap w1, (convert 9 54 (.string s)).run Try.prog w = .ok (.slice (some ⟨w.heap.size, 0, none⟩) s.size cap) w1 ∧ Below w.heap.size w w1 ∧ ∀ j (_ : j < s.size), w1.cell? ⟨w.heap.size, j, none⟩ = some (.int .u8 (s[j].toNat : Nat)) := by
  refine ⟨_, _, run_bytes_of_string (P := Try.prog) w 9 54 5 s Try.underlying9 Try.underlying54 Try.underlying5, (Below.refl _ _).drew.alloc (Nat.le_refl _) _, ?_⟩
  intro j hj
  have hr := row_get s (grownCap w s.size 0 5) j hj
  generalize bytesRow s (grownCap w s.size 0 5) = C at *
  have hb : ∀ e f, (w.drew.alloc (.cells C e f)).heap[w.heap.size]? = some (.cells C e f) := by
    intro e f
    show (w.heap.push _)[w.heap.size]? = _
    simp
  simp only [World.cell?, hb]
  exact hr

theorem all_snoc {l : List UInt8} {k : Nat} (hk : k < l.length) (h : (l.take k).all Rf.isD = true) (h1 : Rf.isD l[k] = true) : (l.take (k + 1)).all Rf.isD = true := by
  rw [List.take_succ_eq_append_getElem hk, List.all_append, h, List.all_cons, h1]
  rfl
theorem all_not {l : List UInt8} {k : Nat} (hk : k < l.length) (h1 : Rf.isD l[k] = false) : l.all Rf.isD = false := by
  rw [List.all_eq_false]
  exact ⟨l[k], List.getElem_mem hk, by rw [h1]; decide⟩
theorem isD_of (c : UInt8) (n : Nat) (h : n = c.toNat) : Rf.isD c = decide (48 ≤ n ∧ n ≤ 57) := by rw [h]; rfl

set_option maxRecDepth 100000 in
set_option maxHeartbeats 1000000 in
theorem areDigits_any (s : ByteArray) (hs : s.size ≤ 9223372036854775807) (most : Nat) (hm : most ≤ 100) (w : World) :
    Calls Try.prog 32 #[.string s, .int .i64 most] w fun e w' => e = .returned (.bool (Rf.areD most s.data.toList)) ∧ Below w.heap.size w w' := by
  have hlen : s.data.toList.length = s.size := Array.length_toList
  by_cases h0 : s.size = 0
  · have hr : Rf.areD most s.data.toList = false := by
      unfold Rf.areD
      rw [hlen, h0]
      rfl
    rw [hr]
    have i1 : (s.size : Int) = 0 := by omega
    clear hr hlen
    go_enter Try.func32, Try.ntmps32
    go_wp2_with fail
    go_ret
    exact ⟨rfl, Below.refl _ _⟩
  by_cases h1 : most < s.size
  · have hr : Rf.areD most s.data.toList = false := by
      unfold Rf.areD
      rw [hlen, decide_eq_false (show ¬ (0 < s.size ∧ s.size ≤ most) by omega)]
      rfl
    rw [hr]
    have i1 : ((s.size : Int) == 0) = false := beq_eq_false_iff_ne.2 (by omega)
    have i2 : most < s.size := by omega
    clear hr hlen
    go_enter Try.func32, Try.ntmps32
    go_wp2_with fail
    go_ret
    exact ⟨rfl, Below.refl _ _⟩
  have hr : Rf.areD most s.data.toList = s.data.toList.all Rf.isD := by
    unfold Rf.areD
    rw [hlen, decide_eq_true (show 0 < s.size ∧ s.size ≤ most by omega)]
    rfl
  rw [hr]
  clear hr
  obtain ⟨cap, w1, hcv, hb1, hcl⟩ := bytes_new s w
  have HC := Lib.hid hcl
  have HB := Lib.hid hb1
  clear hcl hb1
  obtain ⟨n, hn⟩ : ∃ n, n = s.size := ⟨_, rfl⟩
  have HN := Lib.hid hn
  have HL := Lib.hid hlen
  have i1 : ((n : Int) == 0) = false := beq_eq_false_iff_ne.2 (by omega)
  have i2 : ¬ most < n := by omega
  have i4 : ¬ n = 0 := by omega
  have i3 : (n : Int) ≤ 100 := by omega
  obtain ⟨r, hr⟩ : ∃ r, s.data.toList.all Rf.isD = r := ⟨_, rfl⟩
  rw [hr]
  have HR := Lib.hid hr
  rw [← hn] at hcv
  clear hr hlen h0 h1 hs
  have hsz : s.size = n := hn.symm
  clear hn
  go_enter Try.func32, Try.ntmps32
  go_wp2_with fail
  go_loopg [19] n (fun g i wx => ∃ k : Nat, k ≤ n ∧ g = n - k ∧ i = .int .i64 k ∧ Hid ((s.data.toList.take k).all Rf.isD = true) ∧ wx = w1)
  case atStart => exact ⟨0, Nat.zero_le _, rfl, rfl, by show _ = _; rw [List.take_zero]; rfl, rfl⟩
  case round =>
    obtain ⟨k, hk, rfl, rfl, hS, rfl⟩ := hrel
    by_cases hkn : k < n
    · have j1 : (k : Int) < (n : Int) := by omega
      have ks : k < s.size := by rw [← HN.out]; exact hkn
      obtain ⟨c, hc⟩ : ∃ c : Nat, c = s[k].toNat := ⟨_, rfl⟩
      have c1 : wr.cell? ⟨w.heap.size, k, none⟩ = some (.int .u8 (c : Nat)) := by rw [hc]; exact HC.out k ks
      have hD := isD_of s[k] c hc
      have kl : k < s.data.toList.length := by rw [HL.out]; exact ks
      have cb : c < 256 := by rw [hc]; exact s[k].toNat_lt
      clear hc
      by_cases hd : 48 ≤ c ∧ c ≤ 57
      · have hst : Hid ((s.data.toList.take (k + 1)).all Rf.isD = true) := all_snoc kl hS.out (by show Rf.isD s[k] = true; rw [hD]; exact decide_eq_true hd)
        have d1 : (48 : Int) ≤ (c : Int) := by omega
        have d2 : (c : Int) ≤ 57 := by omega
        clear hS hD hd ks kl
        go_wp2_with fail
        go_roundg (n - (k + 1))
        case rel => exact ⟨k + 1, by omega, rfl, by go_num, hst, rfl⟩
        case measure => omega
      · have hfin : r = false := by
          rw [← HR.out]
          exact all_not kl (by show Rf.isD s[k] = false; rw [hD]; exact decide_eq_false hd)
        subst hfin
        clear hS hD ks kl
        by_cases d1 : (c : Int) < 48
        · go_wp2_with fail
          go_ret
          exact ⟨rfl, HB.out⟩
        · have d2 : (57 : Int) < (c : Int) := by omega
          go_wp2_with fail
          go_ret
          exact ⟨rfl, HB.out⟩
    · obtain rfl : k = n := by omega
      have hfin : r = true := by
        rw [← HR.out, ← hS.out, HN.out, ← HL.out, List.take_length]
      subst hfin
      clear hS
      go_wp2_with fail
      go_ret
      exact ⟨rfl, HB.out⟩

end Go.Proofs.Ythlbeehlcgnggaa
