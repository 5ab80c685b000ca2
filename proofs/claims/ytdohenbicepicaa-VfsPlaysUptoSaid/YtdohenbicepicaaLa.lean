/-
  Lists of texts held against each other; the fixed answers of stage 4.
-/
import Derived.Test.YtdohenbicepicaaLn
import Derived.Test.YtdohenbicepicaaVi
import Derived.BigQuiet
namespace Go.Proofs.Ytdohenbicepicaa
open Go.RowKit Go.Maps

/-- The value v is a slice of these texts. -/
def SView (w : World) (v : Value) (l : List ByteArray) : Prop :=
  ∃ a cap, v = .slice a l.length cap ∧ l.length ≤ 4611686018427387904 ∧ (0 < l.length → ∃ g, a = some ⟨g, 0, none⟩ ∧ g < w.heap.size ∧ ∀ i (_ : i < l.length), w.cell? ⟨g, i, none⟩ = some (.string l[i]))
theorem OwnS.view {w : World} {B : Nat} {v : Value} {l : List ByteArray} (h : OwnS w B v l) (hl : l.length ≤ 4611686018427387904) : SView w v l := by
  rcases h.2 with ⟨rfl, h0⟩ | ⟨g, cap, cur, rfl, hg, hh, _⟩
  · exact ⟨none, 0, by rw [h0], hl, fun h => by omega⟩
  · refine ⟨_, cap, rfl, hl, fun _ => ⟨g, rfl, (Array.getElem?_eq_some_iff.1 hh).1, fun i hi => ?_⟩⟩
    have hc := World.ownsRow.cells h (g := g) rfl i (.string l[i]) (by unfold strsV; rw [List.getElem?_map, List.getElem?_eq_getElem hi]; rfl)
    rw [Addr.add_lit, Nat.zero_add] at hc
    exact hc
theorem SView.keep {w w' : World} {v : Value} {l : List ByteArray} (h : SView w v l) (e : ∀ k, v.ownBlock = some k → w'.heap[k]? = w.heap[k]?) (hs : w.heap.size ≤ w'.heap.size) : SView w' v l := by
  obtain ⟨a, cap, rfl, hl, h1⟩ := h
  refine ⟨a, cap, rfl, hl, fun h0 => ?_⟩
  obtain ⟨g, rfl, hg, hc⟩ := h1 h0
  exact ⟨g, rfl, Nat.lt_of_lt_of_le hg hs, fun i hi => (World.cell?_of_block (e g rfl)).trans (hc i hi)⟩
theorem SView.below {w w' : World} {B : Nat} {v : Value} {l : List ByteArray} (h : SView w v l) (hb : Below B w w') (hB : w.heap.size ≤ B) : SView w' v l := by
  obtain ⟨a, cap, rfl, hl, h1⟩ := h
  refine ⟨a, cap, rfl, hl, fun h0 => ?_⟩
  obtain ⟨g, rfl, hg, hc⟩ := h1 h0
  exact ⟨g, rfl, Nat.lt_of_lt_of_le hg hb.size, fun i hi => (World.cell?_of_block (hb.block g (Nat.lt_of_lt_of_le hg hB))).trans (hc i hi)⟩

set_option maxRecDepth 100000 in
set_option maxHeartbeats 2000000 in
theorem same_any (w : World) (v v' : Value) (l l' : List ByteArray) (h : SView w v l) (h' : SView w v' l') :
    Calls Try.prog 26 #[v, v'] w fun e w' => e = .returned (.bool (decide (l = l'))) ∧ Below w.heap.size w w' := by
  obtain ⟨a, cap, rfl, hl, h1⟩ := h
  obtain ⟨a', cap', rfl, hl', h1'⟩ := h'
  have H1 := Lib.hid h1
  have H1' := Lib.hid h1'
  clear h1 h1'
  by_cases hn : l.length = l'.length
  · have hd : Hid (∀ k, (∀ i, i < k → l[i]? = l'[i]?) → k = l.length → l = l') := fun k hk e => by
      apply List.ext_getElem?
      intro i
      by_cases hi : i < k
      · exact hk i hi
      · rw [List.getElem?_eq_none (by omega), List.getElem?_eq_none (by omega)]
    obtain ⟨n, hnn⟩ : ∃ n, n = l.length := ⟨_, rfl⟩
    have HN := Lib.hid hnn
    have HN' : Hid (n = l'.length) := hnn.trans hn
    rw [← hn, ← hnn]
    rw [← hnn] at hl
    clear hnn hn hl'
    go_enter Try.func26, Try.ntmps26
    go_wp2_with fail
    go_loopg [5] n (fun gg iv wx => ∃ k : Nat, Below w.heap.size w wx ∧ k ≤ n ∧ gg = n - k ∧ iv = .int .i64 (k : Int) ∧ Hid (∀ i, i < k → l[i]? = l'[i]?))
    case atStart => exact ⟨0, Below.refl _ _, Nat.zero_le _, rfl, rfl, fun i hi => by omega⟩
    case round =>
      obtain ⟨k, hbel, hk, rfl, rfl, hf⟩ := hrel
      by_cases hkn : k < n
      · have i1 : (k : Int) < (n : Int) := by omega
        have kl : k < l.length := by rw [← HN.out]; exact hkn
        have kl' : k < l'.length := by rw [← HN'.out]; exact hkn
        obtain ⟨g, rfl, hg, hc⟩ := H1.out (by omega)
        obtain ⟨g', rfl, hg', hc'⟩ := H1'.out (by omega)
        have c1 : wr.cell? ⟨g, k, none⟩ = some (.string l[k]) := (hbel.cell (p := ⟨g, k, none⟩) hg).trans (hc k kl)
        have c2 : wr.cell? ⟨g', k, none⟩ = some (.string l'[k]) := (hbel.cell (p := ⟨g', k, none⟩) hg').trans (hc' k kl')
        have HB := Lib.hid hbel
        clear hc hc' hg hg' hbel
        by_cases he : Vf.eqB l[k] l'[k] = true
        · have he1 := eqB_true he
          have hf2 : Hid (∀ i, i < k + 1 → l[i]? = l'[i]?) := fun i hi => by
            rcases Nat.lt_or_ge i k with h | h
            · exact hf.out i h
            · obtain rfl : i = k := by omega
              rw [List.getElem?_eq_getElem kl, List.getElem?_eq_getElem kl', Vf.eqB_iff.1 he]
          have he2 : (l[k].toList != l'[k].toList) = false := by simp [bne, he1]
          clear he hf
          generalize l[k] = x at *
          generalize l'[k] = y at *
          go_wp2_with fail
          go_quiet (fail)
          go_wp2_with fail
          go_roundg (n - (k + 1))
          case rel => exact ⟨k + 1, belowN HB.out _, by omega, rfl, by go_num, hf2⟩
          case measure => omega
        · have he1 := eqB_false (by simpa using he)
          have he2 : (l[k].toList != l'[k].toList) = true := by simp [bne, he1]
          have hfin : Hid (decide (l = l') = false) := by
            show _ = _
            rw [decide_eq_false_iff_not]
            intro e
            subst e
            exact he (Vf.eqB_self _)
          clear he hf
          generalize l[k] = x at *
          generalize l'[k] = y at *
          go_wp2_with fail
          go_quiet (fail)
          go_wp2_with fail
          go_ret
          exact ⟨by rw [hfin.out]; rfl, belowN HB.out _⟩
      · have hfin : Hid (decide (l = l') = true) := by
          show _ = _
          rw [decide_eq_true_eq]
          exact hd.out k hf.out (by rw [← HN.out]; omega)
        have HB := Lib.hid hbel
        clear hf hbel
        go_wp2_with fail
        go_ret
        exact ⟨by rw [hfin.out]; rfl, HB.out⟩
  · have hfin : Hid (decide (l = l') = false) := by
      show _ = _
      rw [decide_eq_false_iff_not]
      intro e
      exact hn (by rw [e])
    have e1 : ((l.length : Int) != (l'.length : Int)) = true := by simp; omega
    clear hn H1 H1'
    generalize l.length = n1 at *
    generalize l'.length = n2 at *
    go_enter Try.func26, Try.ntmps26
    go_wp2_with fail
    go_ret
    exact ⟨by rw [hfin.out]; rfl, Below.refl _ _⟩
end Go.Proofs.Ytdohenbicepicaa
