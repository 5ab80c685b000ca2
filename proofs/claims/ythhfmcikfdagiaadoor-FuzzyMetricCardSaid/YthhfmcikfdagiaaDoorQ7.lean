/-
  Lemmas on automata, the program's calls and the given ones, put together of 15 texts (part 7).
-/
import Derived.Test.YthhfmcikfdagiaaDoorQ6
import Derived.Test.YthhfmcikfdagiaaDoorQ1
import Derived.Deep.AppendLies
import Derived.Test.YthhfmcikfdagiaaDoorQ3
import Derived.Test.YthhfmcikfdagiaaDoorQ4
import Derived.Deep.OwnRows
import Derived.Deep.LoopGhost
import Derived.BigQuiet
import Derived.Test.YthhfmcikfdagiaaDoorQ2
import Derived.Test.YthhfmcikfdagiaaDoorCards
import Derived.Test.YthhfmcikfdagiaaDoorTie
import Derived.ProofKit
import Derived.OpenShut
import Derived.ShutString
import Derived.ChangeOld
import Derived.SizedLaws
import Derived.Deep.DeepHandedRow
import Derived.Deep.DeepWitnessRowRef
import Derived.Lib.LaidIn
import Derived.Lib.LaidU8T
import Derived.PinnedBridge
/-
  What Letters answers, the program's and the document's own: the folded characters, or the refusal; whether too much stands behind the first star; whether a list begins with another one.
-/
namespace Go.Proofs.YthhfmcikfdagiaaDoor
open Go.RowKit

namespace Wl
theorem letE_no {l m : List UInt8} (h : ¬ Ut.decE l = 0) : letE l m = Ut.decE l := by unfold letE; rw [if_neg h]
theorem letE_yes {l m : List UInt8} (h : Ut.decE l = 0) : letE l m = if 16 < (Ut.decS l).length then 4 else if (Ut.decS l).length = 0 then 20 else if ((Ut.decS l).map Ut.fold).all (okC m) = true then 0 else 20 := by unfold letE; rw [if_pos h]
theorem letS_no {l m : List UInt8} (h : ¬ letE l m = 0) : letS l m = [] := if_neg h
theorem fold_whole (l : List UInt8) : ∀ c ∈ (Ut.decS l).map Ut.fold, Ut.whole c = true := fun c hc => by
  obtain ⟨d, hd, rfl⟩ := List.mem_map.1 hc
  refine Ut.whole_fold d ?_
  by_cases hv : Lib.validD l = true
  · rw [Ut.decS_yes hv] at hd
    exact Ut.allW_iff.1 (Ut.enc_dec l.length l (Nat.le_refl _) hv).2 d hd
  · rw [Ut.decS_no (by simpa using hv)] at hd
    cases hd
end Wl
/-- What Letters answers. -/
def LetPost (w : World) (l m : List UInt8) (e : Ending) (w' : World) : Prop :=
  ∃ v, e = .returned (.tuple #[v, .int .i64 (Wl.letE l m)]) ∧ OwnI w' w.heap.size v (Wl.letS l m) ∧ Below w.heap.size w w'

set_option maxRecDepth 100000 in
set_option maxHeartbeats 2000000 in
theorem letters_any (w : World) (s m : ByteArray) (hT : Tabs w) (hs : s.size ≤ 17592186044415) : Calls Tryd.prog 10 #[.string s, .string m] w (LetPost w s.data.toList m.data.toList) := by
  have hd := folded_any w s hT hs
  have hln := Ut.decS_length s.data.toList
  rw [show s.data.toList.length = s.size from by simp] at hln
  have HE0 := Lib.hid (fun h => @Wl.letE_no s.data.toList m.data.toList h)
  have HE1 := Lib.hid (fun h => @Wl.letE_yes s.data.toList m.data.toList h)
  have HS0 := Lib.hid (fun h => @Wl.letS_no s.data.toList m.data.toList h)
  have HS1 : Hid (Wl.letE s.data.toList m.data.toList = 0 → Wl.letS s.data.toList m.data.toList = (Ut.decS s.data.toList).map Ut.fold) := fun h => if_pos h
  have HW := Lib.hid (Wl.fold_whole s.data.toList)
  unfold FoldPost at hd
  unfold LetPost
  have hnl : ((Ut.decS s.data.toList).map Ut.fold).length = (Ut.decS s.data.toList).length := List.length_map _
  generalize Ut.decE s.data.toList = E at *
  generalize (Ut.decS s.data.toList).map Ut.fold = L at *
  generalize (Ut.decS s.data.toList).length = n at *
  generalize Wl.letE s.data.toList m.data.toList = E' at *
  generalize Wl.letS s.data.toList m.data.toList = S' at *
  have HD := Lib.hid hd
  have HN := Lib.hid hnl
  clear hd hT hnl
  go_enter Tryd.func10, Tryd.ntmps10
  go_wp2_with fail
  refine HD.out.mono ?_
  rintro e w1 ⟨v, rfl, hown, hb⟩
  obtain ⟨a, c, rfl, _⟩ := ownI_cells hown
  have HI := Lib.hid (hown.ints (by rw [HN.out]; omega))
  have HO := Lib.hid hown
  have HB := Lib.hid hb
  rw [HN.out]
  clear hown hb
  by_cases h0 : E = 0
  · subst h0
    by_cases h1 : 16 < n
    · have h2 : (16 : Int) < (n : Int) := by omega
      have he : Hid (E' = 4) := by show _ = _; rw [HE1.out rfl, if_pos h1]
      have hs' : Hid (S' = []) := HS0.out (by rw [he.out]; decide)
      clear HE0 HE1 HS0 HS1
      go_wp2_with fail
      go_ret2
      exact ⟨_, by rw [he.out]; rfl, by rw [hs'.out]; exact World.ownsRow_nil _ _ _ _, HB.out⟩
    · have h2 : ¬ (16 : Int) < (n : Int) := by omega
      by_cases h3 : n = 0
      · have he : Hid (E' = 20) := by show _ = _; rw [HE1.out rfl, if_neg h1, if_pos h3]
        have hs' : Hid (S' = []) := HS0.out (by rw [he.out]; decide)
        clear HE0 HE1 HS0 HS1
        subst h3
        go_wp2_with fail
        go_ret2
        exact ⟨_, by rw [he.out]; rfl, by rw [hs'.out]; exact World.ownsRow_nil _ _ _ _, HB.out⟩
      · have h4 : ((n : Int) == 0) = false := by simpa using h3
        have HA : Hid (E' = if L.all (Wl.okC m.data.toList) = true then 0 else 20) := by show _ = _; rw [HE1.out rfl, if_neg h1, if_neg h3]
        clear HE0 HE1
        go_wp2_with fail
        go_loopg [29] n (fun g i wx => ∃ k : Nat, wx = w1 ∧ k ≤ n ∧ g = n - k ∧ i = .int .i64 k ∧ Hid ((L.take k).all (Wl.okC m.data.toList) = true))
        case atStart => exact ⟨0, rfl, Nat.zero_le _, rfl, rfl, rfl⟩
        case round =>
          obtain ⟨k, rfl, hk, rfl, rfl, hA⟩ := hrel
          by_cases hkn : k < n
          · have i1 : (k : Int) < (n : Int) := by omega
            have kx : k < L.length := by rw [HN.out]; exact hkn
            obtain ⟨a', cap', e', _, _, hcu⟩ := HI.out
            cases e'
            obtain ⟨g, o, rfl, hg, hcu⟩ := hcu (by omega)
            have c1 := hcu k kx
            have HL := Lib.hid (letter_any L[k] wr)
            have hwh := Ut.whole_iff.1 (HW.out L[k] (List.getElem_mem kx))
            have HM := Lib.hid (isMark_any L[k] m (by omega) wr)
            have HST : Hid ((L.take (k + 1)).all (Wl.okC m.data.toList) = (Ut.letter L[k] || Wl.mark m.data.toList L[k])) := by
              show _ = _
              rw [List.take_succ_eq_append_getElem kx, List.all_append, hA.out, List.all_cons, List.all_nil, Bool.and_true, Bool.true_and]
              rfl
            have HNO : Hid (Ut.letter L[k] = false → Wl.mark m.data.toList L[k] = false → L.all (Wl.okC m.data.toList) = false) := fun q1 q2 => by
              rw [List.all_eq_false]
              exact ⟨L[k], List.getElem_mem kx, by rw [Wl.okC_eq, q1, q2]; simp⟩
            clear hcu hwh hA
            generalize Ut.letter L[k] = b1 at *
            generalize Wl.mark m.data.toList L[k] = b2 at *
            generalize L[k] = x at *
            cases b1 with
            | true =>
              have hf : Hid ((L.take (k + 1)).all (Wl.okC m.data.toList) = true) := by show _ = _; rw [HST.out]; rfl
              clear HST HNO
              go_wp2_with fail
              refine HL.out.mono ?_
              rintro e w2 ⟨rfl, rfl⟩
              go_wp2_with fail
              go_roundg (n - (k + 1))
              case rel => exact ⟨k + 1, rfl, by omega, rfl, by go_num, hf⟩
              case measure => omega
            | false =>
              go_wp2_with fail
              refine HL.out.mono ?_
              rintro e w2 ⟨rfl, rfl⟩
              cases b2 with
              | true =>
                have hf : Hid ((L.take (k + 1)).all (Wl.okC m.data.toList) = true) := by show _ = _; rw [HST.out]; rfl
                clear HST HNO
                go_wp2_with fail
                refine HM.out.mono ?_
                rintro e w2 ⟨rfl, rfl⟩
                go_wp2_with fail
                go_roundg (n - (k + 1))
                case rel => exact ⟨k + 1, rfl, by omega, rfl, by go_num, hf⟩
                case measure => omega
              | false =>
                have he : Hid (E' = 20) := by show _ = _; rw [HA.out, HNO.out (by trivial) (by trivial)]; rfl
                have hs' : Hid (S' = []) := HS0.out (by rw [he.out]; decide)
                clear HST HNO
                go_wp2_with fail
                refine HM.out.mono ?_
                rintro e w2 ⟨rfl, rfl⟩
                go_wp2_with fail
                go_ret2
                exact ⟨_, by rw [he.out]; rfl, by rw [hs'.out]; exact World.ownsRow_nil _ _ _ _, HB.out⟩
          · obtain rfl : k = n := by omega
            have i1 : ¬ (k : Int) < (k : Int) := by omega
            rw [List.take_of_length_le (by rw [HN.out]; exact Nat.le_refl _)] at hA
            have he : Hid (E' = 0) := by show _ = _; rw [HA.out, hA.out]; rfl
            have hs' : Hid (S' = L) := HS1.out he.out
            clear hA
            go_wp2_with fail
            go_ret2
            exact ⟨_, by rw [he.out]; rfl, by rw [hs'.out]; have := HO.out; rw [HN.out] at this; exact this, HB.out⟩
  · have h1 : (E != 0) = true := by simpa using h0
    have he := Lib.hid (HE0.out h0)
    have hs' : Hid (S' = []) := HS0.out (by rw [he.out]; exact h0)
    clear HE0 HE1 HS0 HS1
    go_wp2_with fail
    go_ret2
    exact ⟨_, by rw [he.out]; rfl, by rw [hs'.out]; exact World.ownsRow_nil _ _ _ _, HB.out⟩
end Go.Proofs.YthhfmcikfdagiaaDoor

/-
  Loose states of the call's own grow: a state more, an arc more of one.
-/
namespace Go.Proofs.YthhfmcikfdagiaaDoor
open Go.RowKit

theorem LoO.form {w : World} {B : Nat} {v : Value} {vals : List LoV} {L : List Au.Lo} (h : LoO w B v vals L) (h0 : 0 < L.length) : ∃ g cap, v = .slice (some ⟨g, 0, none⟩) L.length cap ∧ L.length ≤ cap ∧ cap ≤ 9223372036854775807 ∧ B ≤ g ∧ g < w.heap.size ∧ (∃ c fz, w.heap[g]? = some (Obj.cells c 58 fz)) ∧ (∀ j, w.frozen? ⟨g, j, none⟩ = false) ∧
    ∀ j (h1 : j < vals.length), w.cell? ⟨g, j * 3, none⟩ = some (.bool vals[j].1) ∧ w.cell? ⟨g, j * 3 + 1, none⟩ = some vals[j].2.1 ∧ w.cell? ⟨g, j * 3 + 2, none⟩ = some vals[j].2.2 := by
  have hl := h.each.len
  rcases h.own.2 with ⟨_, h1⟩ | ⟨g, cap, cur, h1, hg, hh, hnc, hcp, hcs, htake⟩
  · omega
  · subst h1
    have hown : w.ownsRow B 58 3 (.slice (some ⟨g, 0, none⟩) L.length cap) L.length (losV vals) := h.own
    refine ⟨g, cap, rfl, hnc, by unfold maxLen at hcp; omega, hg, (hown.lt g rfl).2, ⟨_, _, hh⟩, fun j => by simp [World.frozen?, hh], fun j hj => ?_⟩
    obtain ⟨a1, a2, a3⟩ := losV_at vals j hj
    exact ⟨(hown.cellAt _ (by omega)).trans a1, (hown.cellAt _ (by omega)).trans a2, (hown.cellAt _ (by omega)).trans a3⟩
theorem LoO.kind {w : World} {B : Nat} {v : Value} {vals : List LoV} {L : List Au.Lo} (h : LoO w B v vals L) : ∀ g, v.ownBlock = some g → B ≤ g ∧ g < w.heap.size ∧ ∃ c fz, w.heap[g]? = some (Obj.cells c 58 fz) := by
  intro g hv
  refine ⟨(World.ownsRow.lt h.own g hv).1, (World.ownsRow.lt h.own g hv).2, ?_⟩
  rcases h.own.2 with ⟨h1, _⟩ | ⟨g', cap, cur, h1, hg, hh, _⟩
  · rw [h1] at hv; cases hv
  · rw [h1] at hv
    obtain rfl : g' = g := by simpa [Value.ownBlock] using hv
    exact ⟨_, _, hh⟩
theorem LoO.keep {w w' : World} {B : Nat} {v : Value} {vals : List LoV} {L : List Au.Lo} (h : LoO w B v vals L) (e : ∀ k, k < w.heap.size → w'.heap[k]? = w.heap[k]?) : LoO w' B v vals L :=
  ⟨ownsRow_keep h.own fun k hv => e k (h.kind k hv).2.1, h.each.keep fun g _ _ _ hg _ _ => e g (Array.getElem?_eq_some_iff.1 hg).1⟩
/-- A block as a row of its own cells. -/
theorem loose_new (w : World) : ∀ j u, [Value.bool false, .slice none 0 0, .slice none 0 0][j]? = some u → (w.alloc (.cells #[.bool false, .slice none 0 0, .slice none 0 0] 58)).cell? ((⟨w.heap.size, 0, none⟩ : Addr).add j) = some u := by
  intro j u hj
  match j, hj with
  | 0, hj => simp at hj; subst hj; simp [Addr.add]
  | 1, hj => simp at hj; subst hj; simp [Addr.add]
  | 2, hj => simp at hj; subst hj; simp [Addr.add]
/-- A state more, that leads nowhere yet. -/
theorem LoO.push {w w1 : World} {B : Nat} {v v' : Value} {vals : List LoV} {L : List Au.Lo} {o : Obj} (h : LoO w B v vals L)
    (h1 : w1.ownsRow B 58 3 v' (L.length + 1) (losV vals ++ [.bool false, .slice none 0 0, .slice none 0 0])) (hg : (w.alloc o).grownBy w1 v.ownBlock) : LoO w1 B v' (vals ++ [(false, .slice none 0 0, .slice none 0 0)]) (L ++ [⟨false, [], []⟩]) := by
  have hl := h.each.len
  have keep : ∀ (k : Nat) (c : Array Value) (t : TypeId) (fz : Nat × Nat), w.heap[k]? = some (Obj.cells c t fz) → t ≠ 58 → w1.heap[k]? = w.heap[k]? := fun k c t fz hk ht => by
    obtain ⟨hlk, _⟩ := Array.getElem?_eq_some_iff.1 hk
    rw [hg.block k (by simp; omega) (fun e => ?_), Go.Deep.blk_alloc_lt _ _ _ hlk]
    obtain ⟨_, _, c', fz', hc'⟩ := h.kind k e.symm
    exact kinds_neY hk hc' ht rfl
  refine ⟨?_, ?_⟩
  · rw [show losV vals ++ [Value.bool false, .slice none 0 0, .slice none 0 0] = losV (vals ++ [(false, .slice none 0 0, .slice none 0 0)]) from losV_snoc vals (false, .slice none 0 0, .slice none 0 0)] at h1
    simpa using h1
  · have h' : LoEach w1 B vals L := h.each.keep fun g c t fz hg' ht _ => keep g c t fz hg' (by rcases ht with rfl | rfl <;> decide)
    refine ⟨by simp [hl], fun j a b => ?_, fun i j hi hj hne g hgi hgj => ?_⟩
    · by_cases e : j < vals.length
      · rw [List.getElem_append_left e, List.getElem_append_left (by omega)]
        exact h'.each j e (by omega)
      · have e' : j = vals.length := by simp at a; omega
        subst e'
        have e2 : (L ++ [(⟨false, [], []⟩ : Au.Lo)])[vals.length] = ⟨false, [], []⟩ := by simp only [hl, List.getElem_append_right (Nat.le_refl _), Nat.sub_self, List.getElem_cons_zero]
        rw [e2]
        simp only [List.getElem_append_right (Nat.le_refl _), Nat.sub_self, List.getElem_cons_zero]
        exact ⟨trivial, World.ownsRow_nil _ _ _ _, World.ownsRow_nil _ _ _ _⟩
    · by_cases e1 : i < vals.length
      · rw [List.getElem_append_left e1] at hgi
        by_cases e2 : j < vals.length
        · rw [List.getElem_append_left e2] at hgj
          exact h'.apart i j e1 e2 hne g hgi hgj
        · have e' : j = vals.length := by simp at hj; omega
          subst e'
          simp [Value.ownBlock] at hgj
      · have e' : i = vals.length := by simp at hi; omega
        subst e'
        simp [Value.ownBlock] at hgi
/-- 'append(n, Loose)' of one that leads nowhere. -/
theorem wpList_pushLo {ops : Array Oper} {rest : List Oper} {o : Oper} {a : Act} {Q : Exit → Act → World → Prop} {w : World} (hgd : o.guard = none) (s x : Operand)
    (ho : o.op = .call { callee := .builtin .append, args := #[s, x], argTypes := #[36, 36] })
    (B : Nat) (v : Value) (vals : List LoV) (L : List Au.Lo) (hs : a.eval s = v) (h : LoO w B v vals L) (hB : B ≤ w.heap.size) (hx : a.eval x = .slice (some ⟨w.heap.size, 0, none⟩) 1 1) (hb : L.length + 1 ≤ 1099511627776)
    (hk : ∀ v' w', LoO w' B v' (vals ++ [(false, .slice none 0 0, .slice none 0 0)]) (L ++ [⟨false, [], []⟩]) → (w.alloc (.cells #[.bool false, .slice none 0 0, .slice none 0 0] 58)).grownBy w' v.ownBlock → wpList Tryd.prog ops Q rest (a.put o.dst v') w') :
    wpList Tryd.prog ops Q (o :: rest) a (w.alloc (.cells #[.bool false, .slice none 0 0, .slice none 0 0] 58)) := by
  obtain ⟨ii, hi, hz0, hz1, hz2⟩ := info_parts Tryd.infoLo
  refine wpList_append_own _ hgd s x 36 ho B 58 ii _ 3 56 Tryd.underlying36 hi hz0 hz1 hz2 rfl (by decide) _ _ _ hs (h.own.alloc _) ⟨w.heap.size, 0, none⟩ 1 1 [.bool false, .slice none 0 0, .slice none 0 0] hx rfl (loose_new w) ?_ (by unfold maxLen; omega) (by omega) (by simp; omega) ?_
  · intro u hu
    simp only [List.mem_cons, List.not_mem_nil, or_false] at hu
    rcases hu with rfl | rfl | rfl <;> rfl
  · intro v' w' h1 h2 _
    exact hk v' w' (h.push h1 h2) h2
/-- An arc more of a state: its list has grown, and is stored. -/
theorem LoO.arc {w w1 : World} {B G cap p : Nat} {vals : List LoV} {L : List Au.Lo} {v5 : Value} {arc : Au.Arc} (h : LoO w B (.slice (some ⟨G, 0, none⟩) L.length cap) vals L) (hp : p < L.length) (hpv : p < vals.length)
    (h1 : OwnA w1 B v5 (L[p].arcs ++ [arc])) (keep : ∀ g, g < w.heap.size → vals[p].2.1.ownBlock ≠ some g → w1.heap[g]? = w.heap[g]?) (hnew : ∀ g, v5.ownBlock = some g → vals[p].2.1.ownBlock = some g ∨ w.heap.size ≤ g) :
    LoO (w1.setCell ⟨G, p * 3 + 1, none⟩ v5) B (.slice (some ⟨G, 0, none⟩) L.length cap) (vals.set p (vals[p].1, v5, vals[p].2.2)) (Sp.addArc L p arc) ∧
      (∀ (g : Nat) (c : Array Value) (t : TypeId) (fz : Nat × Nat), w.heap[g]? = some (Obj.cells c t fz) → t ≠ 58 → t ≠ 63 → (w1.setCell ⟨G, p * 3 + 1, none⟩ v5).heap[g]? = w.heap[g]?) ∧
      (∀ g, g < B → g < w.heap.size → (w1.setCell ⟨G, p * 3 + 1, none⟩ v5).heap[g]? = w.heap[g]?) ∧ w1.heap[G]? = w.heap[G]? := by
  have hl := h.each.len
  obtain ⟨hGB, hGl, cG, fzG, hG⟩ := h.kind G rfl
  obtain ⟨q1, q2, q3⟩ := h.each.each p hpv hp
  have hrow : ∀ g, vals[p].2.1.ownBlock = some g → ∃ c fz, w.heap[g]? = some (Obj.cells c 63 fz) := q2.kind
  have keepT : ∀ (g : Nat) (c : Array Value) (t : TypeId) (fz : Nat × Nat), w.heap[g]? = some (Obj.cells c t fz) → t ≠ 63 → w1.heap[g]? = w.heap[g]? := fun g c t fz hg' ht => keep g (Array.getElem?_eq_some_iff.1 hg').1 fun e => by
    obtain ⟨c', fz', hc'⟩ := hrow g e
    exact kinds_neY hg' hc' ht rfl
  have hG1 := keepT G cG _ fzG hG (by decide)
  have far : ∀ g, g ≠ G → (w1.setCell ⟨G, p * 3 + 1, none⟩ v5).heap[g]? = w1.heap[g]? := fun g hne => Go.Deep.blk_setCell_other _ _ _ _ hne
  refine ⟨⟨?_, ?_⟩, fun g c t fz hg' h2 h3 => (far g (kinds_neY hg' hG h2)).trans (keepT g c t fz hg' h3), fun g hgB hgl => (far g (by omega)).trans (keep g hgl fun e => by have := (q2.lt g e).1; omega), hG1⟩
  · have hown1 : w1.ownsRow B 58 3 (.slice (some ⟨G, 0, none⟩) L.length cap) L.length (losV vals) := ownsRow_keep h.own fun k hk => by
      obtain rfl : G = k := by simpa [Value.ownBlock] using hk
      exact hG1
    have hs := (hown1.stored (p * 3 + 1) v5).1
    have e : (losV vals).set (p * 3 + 1) v5 = losV (vals.set p (vals[p].1, v5, vals[p].2.2)) := by
      clear hs hown1 h1 hnew keep keepT far hrow q1 q2 q3 h hl hp
      induction vals generalizing p with
      | nil => simp at hpv
      | cons x t ih =>
        cases p with
        | zero => rfl
        | succ p =>
          have hp' : p < t.length := by simpa using hpv
          have := ih hp'
          simp only [List.set_cons_succ, List.getElem_cons_succ]
          show (_ :: _ :: _ :: losV t).set ((p + 1) * 3 + 1) v5 = _ :: _ :: _ :: losV _
          rw [show (p + 1) * 3 + 1 = p * 3 + 1 + 1 + 1 + 1 by omega, List.set_cons_succ, List.set_cons_succ, List.set_cons_succ, this]
    rw [e] at hs
    rw [Sp.addArc_length]
    exact hs
  · have hset : ∀ j (hj : j < (vals.set p (vals[p].1, v5, vals[p].2.2)).length), (vals.set p (vals[p].1, v5, vals[p].2.2))[j] = if p = j then (vals[p].1, v5, vals[p].2.2) else vals[j]'(by simpa using hj) := fun j hj => by rw [List.getElem_set]
    have hadd : ∀ j (hj : j < (Sp.addArc L p arc).length), (Sp.addArc L p arc)[j] = if p = j then ⟨(L[j]'(by simpa [Sp.addArc_length] using hj)).fin, (L[j]'(by simpa [Sp.addArc_length] using hj)).arcs ++ [arc], (L[j]'(by simpa [Sp.addArc_length] using hj)).free⟩ else L[j]'(by simpa [Sp.addArc_length] using hj) := fun j hj => by
      have := Sp.addArc_at L p arc j
      rw [List.getElem?_eq_getElem hj, List.getElem?_eq_getElem (by simpa [Sp.addArc_length] using hj)] at this
      simpa using this
    have hkind1 : ∀ g, v5.ownBlock = some g → g ≠ G := fun g hg' e => by
      obtain ⟨c, fz, hc⟩ := h1.kind g hg'
      rw [e, hG1, hG] at hc
      injection hc with hc
      injection hc with _ h2
      exact absurd h2 (by decide)
    refine ⟨by rw [List.length_set, Sp.addArc_length]; exact hl, fun j a b => ?_, fun i j hi hj hne g hgi hgj => ?_⟩
    · rw [hset j a, hadd j b]
      have ha : j < vals.length := by simpa using a
      obtain ⟨r1, r2, r3⟩ := h.each.each j ha (by omega)
      have hf3 : OwnZ (w1.setCell ⟨G, p * 3 + 1, none⟩ v5) B vals[j].2.2 (L[j]'(by omega)).free := ownsRow_keep r3 fun k hk => by
        obtain ⟨_, hkl, c, fz, hc⟩ := r3.kind k hk
        rw [far k (kinds_neY hc hG (by decide)), keepT k c _ fz hc (by decide)]
      by_cases e : p = j
      · subst e
        rw [if_pos rfl, if_pos rfl]
        exact ⟨r1, h1.keep fun k hk => far k (hkind1 k hk), hf3⟩
      · rw [if_neg e, if_neg e]
        refine ⟨r1, r2.keep fun k hk => ?_, hf3⟩
        obtain ⟨c, fz, hc⟩ := r2.kind k hk
        rw [far k (kinds_neY hc hG (by decide)), keep k (r2.lt k hk).2 fun e2 => h.each.apart p j hpv ha e k e2 hk]
    · have hi' : i < vals.length := by simpa using hi
      have hj' : j < vals.length := by simpa using hj
      rw [hset i hi] at hgi
      rw [hset j hj] at hgj
      have old : ∀ k (hk : k < vals.length) g, vals[k].2.1.ownBlock = some g → g < w.heap.size := fun k hk g hg' => ((h.each.each k hk (by omega)).2.1.lt g hg').2
      by_cases e1 : p = i
      · rw [if_pos e1] at hgi
        have e2 : ¬ p = j := fun e => hne (e1.symm.trans e)
        rw [if_neg e2] at hgj
        rcases hnew g hgi with hn | hn
        · exact h.each.apart p j hpv hj' e2 g hn hgj
        · have := old j hj' g hgj
          omega
      · rw [if_neg e1] at hgi
        by_cases e2 : p = j
        · rw [if_pos e2] at hgj
          rcases hnew g hgj with hn | hn
          · exact h.each.apart p i hpv hi' e1 g hn hgi
          · have := old i hi' g hgi
            omega
        · rw [if_neg e2] at hgj
          exact h.each.apart i j hi' hj' hne g hgi hgj
end Go.Proofs.YthhfmcikfdagiaaDoor

/-
  What leadBy answers: the texts of a row lead from one state to another.
-/
namespace Go.Proofs.YthhfmcikfdagiaaDoor
open Go.RowKit

/-- What is neither a list of loose states nor one of arcs is as it was. -/
def KeptT (w w' : World) : Prop := ∀ (g : Nat) (c : Array Value) (t : TypeId) (fz : Nat × Nat), w.heap[g]? = some (Obj.cells c t fz) → t ≠ 58 → t ≠ 63 → w'.heap[g]? = w.heap[g]?
theorem KeptT.refl (w : World) : KeptT w w := fun _ _ _ _ _ _ _ => rfl
theorem KeptT.trans {w w' w'' : World} (h : KeptT w w') (k : KeptT w' w'') : KeptT w w'' := fun g c t fz hg h1 h2 => by
  have e := h g c t fz hg h1 h2
  exact (k g c t fz (e.trans hg) h1 h2).trans e
theorem KeptT.row {w w' : World} (h : KeptT w w') {g : Nat} {r : List (Int × Int)} (hr : RowG w g r) : RowG w' g r := by
  obtain ⟨c, fz, hc⟩ := hr.kind
  exact hr.of_block (h g c _ fz hc (by decide) (by decide))
theorem KeptT.alloc (w : World) (o : Obj) : KeptT w (w.alloc o) := fun _ _ _ _ hg _ _ => Go.Deep.blk_alloc_lt _ _ _ (Array.getElem?_eq_some_iff.1 hg).1
/-- One arc more, in a region that draws its order. -/
theorem step_pushA {ops : Array Oper} {o : Oper} {a : Act} {K : Act → World → Prop} {Q : Exit → Act → World → Prop} {E : Prop} {w W0 : World} (hgd : o.guard = none) (s x : Operand)
    (ho : o.op = .call { callee := .builtin .append, args := #[s, x], argTypes := #[40, 40] }) (B : Nat) (v : Value) (l : List Au.Arc) (hs : a.eval s = v) (h : OwnA w B v l) (hW : Below w.heap.size w W0) (hB : B ≤ w.heap.size) (p q r : Int)
    (ad : Addr) (hnews : ∀ j u, [Value.int .i64 p, .int .i64 q, .int .i64 r][j]? = some u → W0.cell? (ad.add j) = some u) (hx : a.eval x = .slice (some ad) 1 1) (hb : l.length + 1 ≤ 1099511627776)
    (hk : ∀ g cap w', OwnA w' B (.slice (some ⟨g, 0, none⟩) (l.length + 1) cap) (l ++ [⟨p, q, r⟩]) → W0.grownBy w' v.ownBlock → (v.ownBlock = some g ∨ w.heap.size ≤ g) → K (a.put o.dst (.slice (some ⟨g, 0, none⟩) (l.length + 1) cap)) w') :
    if Region.wanted o (yielded ops a.tmps) = true then Oper.wp Tryd.prog o a W0 K Q else E := by
  obtain ⟨ii, hi, hz0, hz1, hz2⟩ := info_parts Tryd.infoA
  have hlt := h.lt
  refine step_append_lies _ hgd s x 40 ho B 63 ii _ 3 24 Tryd.underlying40 hi hz0 hz1 hz2 rfl (by decide) v l.length (arcsV l) hs (ownsRow_keep h fun k hk => hW.block k (hlt k hk).2) ad 1 1 [.int .i64 p, .int .i64 q, .int .i64 r] hx rfl hnews (one_arc p q r) (by omega) (by unfold maxLen; omega) (by omega) (Nat.le_trans hB hW.size) _ rfl ?_
  intro g cap w' h2 h3 h4 _
  refine hk g cap w' ?_ h3 ?_
  · unfold OwnA
    rw [arcsV_snoc l ⟨p, q, r⟩] at h2
    simpa using h2
  · rcases h4 with h4 | h4
    · exact .inl h4
    · have := hW.size
      exact .inr (by omega)
theorem new_arcD (w : World) (a b c : Int) : ∀ j u, [Value.int .i64 a, .int .i64 b, .int .i64 c][j]? = some u → ((w.alloc (.cells #[.int .i64 a, .int .i64 b, .int .i64 c] 63)).drew).cell? ((⟨w.heap.size, 0, none⟩ : Addr).add j) = some u := fun j u h => new_arc w a b c j u h
namespace Sp
theorem drop_last {row : List (Int × Int)} {i : Nat} (h : i + 1 = row.length) : row.drop i = [row[i]'(by omega)] := by
  rw [List.drop_eq_getElem_cons (by omega), List.drop_of_length_le (by omega)]
theorem drop_more {row : List (Int × Int)} {i : Nat} (h : i + 1 < row.length) : ∃ r' rs, row.drop i = row[i]'(by omega) :: r' :: rs ∧ row.drop (i + 1) = r' :: rs := by
  rw [List.drop_eq_getElem_cons (by omega)]
  exact ⟨row[i + 1], row.drop (i + 2), by rw [List.drop_eq_getElem_cons h], by rw [List.drop_eq_getElem_cons h]⟩
theorem addArc_arcs {n : List Au.Lo} {p : Nat} {a : Au.Arc} {X : Nat} (h : ∀ s ∈ n, s.arcs.length ≤ X) : ∀ s ∈ addArc n p a, s.arcs.length ≤ X + 1 := by
  intro s hs
  obtain ⟨i, hi⟩ := List.mem_iff_getElem?.1 hs
  rw [addArc_at] at hi
  obtain ⟨s0, h0, rfl⟩ := Option.map_eq_some_iff.1 hi
  have := h s0 (List.mem_of_getElem? h0)
  split
  · simp; omega
  · omega
end Sp

theorem v_form {w : World} {B nl : Nat} {v : Value} {vals : List LoV} {n : List Au.Lo} {s : Au.Lo} (h : LoO w B v vals (n ++ [s])) (hn : nl = n.length) : ∃ a cp, v = .slice a (nl + 1) cp := by
  obtain ⟨g4, cp4, e4, _⟩ := h.form (by simp)
  rw [e4]
  exact ⟨some ⟨g4, 0, none⟩, cp4, by simp [hn]⟩
set_option maxRecDepth 100000 in
set_option maxHeartbeats 4000000 in
theorem leadBy_any (w : World) (B : Nat) (v : Value) (vals : List LoV) (L : List Au.Lo) (h : LoO w B v vals L) (p q g m : Nat) (row : List (Int × Int)) (hp : p < L.length) (hrow : RowG w g row) (hm : row.length = m) (hm4 : m ≤ 4) (hL : L.length ≤ 1000000) (X : Nat) (hX : ∀ s ∈ L, s.arcs.length ≤ X) (hX2 : X ≤ 549755813888) (hB : B ≤ w.heap.size) (hbd : ∀ r ∈ row, 0 ≤ r.1 ∧ r.1 ≤ r.2 ∧ r.2 ≤ 255) :
    Calls Tryd.prog 47 #[v, .int .i64 p, .int .i64 q, .slice (some ⟨g, 0, none⟩) m m] w fun e w' => ∃ v' vals', e = .returned v' ∧ LoO w' B v' vals' (Sp.leadBy q L p row) ∧ Below B w w' ∧ KeptT w w' := by
  have HM := Lib.hid hm
  have HR := Lib.hid hrow
  have HO := Lib.hid h
  have HX := Lib.hid hX
  have HBD := Lib.hid hbd
  clear hm hrow h hX hbd
  go_enter Tryd.func47, Tryd.ntmps47
  go_wp2_with fail
  go_loopg [0, 1, 14] m (fun g' s0 s1 s14 wx => ∃ (i pp : Nat) (vv : Value) (vals : List LoV) (n : List Au.Lo), i ≤ m ∧ g' = m - i ∧ vv = s0 ∧ s1 = .int .i64 pp ∧ s14 = .int .i64 i ∧ n.length ≤ L.length + i ∧ Hid (i < m → pp < n.length) ∧ Hid (LoO wx B vv vals n) ∧ Hid (Sp.leadBy q n pp (row.drop i) = Sp.leadBy q L p row) ∧ Hid (∀ s ∈ n, s.arcs.length ≤ X + i) ∧ Hid (Below B w wx) ∧ Hid (KeptT w wx))
  case atStart => exact ⟨0, p, _, vals, L, Nat.zero_le _, rfl, rfl, rfl, rfl, Nat.le_refl _, fun _ => hp, HO, rfl, HX, Below.refl _ _, KeptT.refl _⟩
  case round =>
    obtain ⟨i, pp, vv, vals, n, hi, rfl, rfl, rfl, rfl, hnl, hpp, hO, hE, hXi, hbel, hkt⟩ := hrel
    by_cases him : i < m
    · have j1 : (i : Int) < (m : Int) := by omega
      have hir : i < row.length := by rw [HM.out]; exact him
      have hpn := hpp.out him
      have HRW := Lib.hid (hkt.out.row HR.out)
      obtain ⟨c1, c2⟩ := HRW.out.cells i hir
      obtain ⟨x1, x2, x3⟩ := HBD.out row[i] (List.getElem_mem hir)
      have HSZ : Hid (B ≤ wr.heap.size) := Nat.le_trans hB hbel.out.size
      have HDL : Hid (i + 1 = m → row.drop i = [row[i]]) := fun e => Sp.drop_last (by rw [HM.out]; exact e)
      have HDM : Hid (i + 1 < m → ∃ r' rs, row.drop i = row[i] :: r' :: rs ∧ row.drop (i + 1) = r' :: rs) := fun e => Sp.drop_more (by rw [HM.out]; exact e)
      generalize row[i] = r at *
      obtain ⟨lo, hi'⟩ := r
      dsimp only at *
      have HBK : Hid ((wr.alloc (.cells #[.int .i64 lo, .int .i64 hi'] 121)).heap[wr.heap.size]? = some (Obj.cells #[.int .i64 lo, .int .i64 hi'] 121 (0, 0))) := Go.Deep.blk_alloc_new _ _
      have HO1 : Hid (LoO (wr.alloc (.cells #[.int .i64 lo, .int .i64 hi'] 121)) B vv vals n) := hO.out.keep fun k hk => Go.Deep.blk_alloc_lt _ _ _ hk
      have HB1 : Hid (Below B w (wr.alloc (.cells #[.int .i64 lo, .int .i64 hi'] 121))) := hbel.out.alloc HSZ.out _
      have HK1 : Hid (KeptT w (wr.alloc (.cells #[.int .i64 lo, .int .i64 hi'] 121))) := hkt.out.trans (KeptT.alloc _ _)
      obtain ⟨nl, hnle⟩ : ∃ nl, nl = n.length := ⟨_, rfl⟩
      have HNL := Lib.hid hnle
      obtain ⟨a0, cp0, rfl⟩ : ∃ a cp, vv = .slice a nl cp := by
        rw [hnle]
        obtain ⟨g0, cp0, h1, _⟩ := hO.out.form (by omega)
        exact ⟨_, _, h1⟩
      rw [← hnle] at hpn hnl
      clear hnle hO hbel hkt
      by_cases hlast : i + 1 = m
      case' pos =>
        have j2 : ¬ (i : Int) < (m : Int) - 1 := by omega
        go_wp2_with fail
        obtain ⟨bx, hbx⟩ : ∃ b, b = wr.heap.size := ⟨_, rfl⟩
        have HBX : Hid (B ≤ bx) := by show _ ≤ _; rw [hbx]; exact HSZ.out
        rw [← hbx] at HBK ⊢
        clear c1 c2 hbx
        generalize wr.alloc (.cells #[.int .i64 lo, .int .i64 hi'] 121) = wa at *
        obtain ⟨nx, hnx⟩ : ∃ nx, nx = q := ⟨_, rfl⟩
        have HEQ : Hid (Sp.leadBy q (Sp.addArc n pp ⟨lo, hi', (nx : Int)⟩) nx (row.drop (i + 1)) = Sp.leadBy q L p row) := by
          have e1 : row.drop (i + 1) = [] := List.drop_of_length_le (by rw [HM.out]; omega)
          show _ = _
          rw [← hE.out, HDL.out hlast, e1, hnx]
          rfl
        have HLT : Hid (i + 1 < m → nx < n.length) := fun e => by omega
        have HNB : nl ≤ L.length + (i + 1) := by omega
        rw [← hnx]
        have HNQ := Lib.hid hnx
        clear hnx
      case' neg =>
        have j2 : (i : Int) < (m : Int) - 1 := by omega
        have HPU := Lib.hid (fun (w' : World) (v' : Value) (hk : LoO w' B v' (vals ++ [(false, .slice none 0 0, .slice none 0 0)]) (n ++ [⟨false, [], []⟩])) => hk.form (by simp))
        go_wp2_with (at_builtin; go_loud ((refine wpList_pushLo rfl _ _ rfl B (.slice a0 nl cp0) vals n rfl HO1.out (Nat.le_trans HSZ.out (by simp)) (by rw [World.size_alloc]; rfl) (by have := HNL.out; omega) ?_)); intro v4 w4 ho4 hg4; have HG4 := Lib.hid hg4; obtain ⟨a0, cp0, rfl⟩ : ∃ a cp, v4 = .slice a (nl + 1) cp := v_form ho4 HNL.out; have HO4 := Lib.hid ho4; clear ho4 hg4)
        obtain ⟨bx, hbx⟩ : ∃ b, b = wr.heap.size := ⟨_, rfl⟩
        have HBX : Hid (B ≤ bx) := by show _ ≤ _; rw [hbx]; exact HSZ.out
        rw [← hbx] at HBK ⊢
        clear c1 c2 hbx
        generalize wr.alloc (.cells #[.int .i64 lo, .int .i64 hi'] 121) = wb at *
        have hkT : KeptT wb w4 := fun g c t fz hg h1 h2 => by
          have hgl := (Array.getElem?_eq_some_iff.1 hg).1
          refine (HG4.out.block g (by simp; omega) (fun e => ?_)).trans (Go.Deep.blk_alloc_lt _ _ _ hgl)
          obtain ⟨_, _, c', fz', hc'⟩ := HO1.out.kind g e.symm
          exact kinds_neY hg hc' h1 rfl
        have HBK2 : Hid (w4.heap[bx]? = some (Obj.cells #[.int .i64 lo, .int .i64 hi'] 121 (0, 0))) := (hkT bx _ _ _ HBK.out (by decide) (by decide)).trans HBK.out
        have HB4 : Hid (Below B w w4) := (HB1.out.alloc (Nat.le_trans hB HB1.out.size) _).grown HG4.out (by have := HB1.out.size; simp; omega) (fun j hj => (HO1.out.kind j hj).1)
        have HK4 : Hid (KeptT w w4) := HK1.out.trans hkT
        clear hkT HBK HO1 HB1 HK1 HG4
        have HBK := HBK2
        have HB1 := HB4
        have HK1 := HK4
        have HO1 := HO4
        clear HBK2 HB4 HK4 HO4
        have HEQ : Hid (Sp.leadBy q (Sp.addArc (n ++ [⟨false, [], []⟩]) pp ⟨lo, hi', (nl : Int)⟩) nl (row.drop (i + 1)) = Sp.leadBy q L p row) := by
          obtain ⟨r', rs, e1, e2⟩ := HDM.out (by omega)
          show _ = _
          rw [← hE.out, e1, e2, HNL.out]
          rfl
        have HLT : Hid (i + 1 < m → nl < (n ++ [(⟨false, [], []⟩ : Au.Lo)]).length) := fun e => by
          have := HNL.out
          simp
          omega
        have HXn : Hid (∀ s ∈ n ++ [(⟨false, [], []⟩ : Au.Lo)], s.arcs.length ≤ X + i) := fun s hs => by
          rcases List.mem_append.1 hs with hs | hs
          · exact hXi.out s hs
          · rw [List.mem_singleton.1 hs]; simp
        have HNL2 : Hid (nl + 1 = (n ++ [(⟨false, [], []⟩ : Au.Lo)]).length) := by show _ = _; rw [HNL.out]; simp
        have HNB : nl + 1 ≤ L.length + (i + 1) := by omega
        have hpn2 : pp < nl + 1 := by omega
        clear hXi HNL hnl hpn hE HDM HDL HPU hpp
        have hXi := HXn
        have HNL := HNL2
        have hpn := hpn2
        clear HXn HNL2 hpn2
        generalize n ++ [(⟨false, [], []⟩ : Au.Lo)] = n at *
        generalize vals ++ [(false, Value.slice none 0 0, Value.slice none 0 0)] = vals at *
        generalize nl + 1 = nk at *
        obtain ⟨nx, rfl⟩ : ∃ x : Nat, x = nl := ⟨_, rfl⟩
        obtain ⟨nl, rfl⟩ : ∃ x : Nat, x = nk := ⟨_, rfl⟩
        obtain ⟨wa, rfl⟩ : ∃ x : World, x = w4 := ⟨_, rfl⟩
      all_goals
        have hpv : pp < vals.length := by rw [HO1.out.each.len, ← HNL.out]; exact hpn
        have hpn3 : pp < n.length := by rw [← HNL.out]; exact hpn
        obtain ⟨q1, q2, q3⟩ := HO1.out.each.each pp hpv hpn3
        obtain ⟨G, cp, e0, _, _, hGB, hGl, hGk, hGf, hGc⟩ := HO1.out.form (by omega)
        obtain ⟨rfl, rfl⟩ : a0 = some ⟨G, 0, none⟩ ∧ cp0 = cp := by
          injection e0 with e1 e2 e3
          exact ⟨e1, e3⟩
        obtain ⟨_, d7, _⟩ := hGc pp hpv
        have df := hGf (pp * 3 + 1)
        have HQ2 := Lib.hid q2
        have HXp : Hid (n[pp].arcs.length ≤ X + i) := hXi.out _ (List.getElem_mem hpn3)
        have HARC := Lib.hid (fun (w1 : World) (v5 : Value) (arc : Au.Arc) => LoO.arc (w1 := w1) (v5 := v5) (arc := arc) (by rw [← HNL.out]; exact HO1.out) hpn3 hpv)
        have HARCS := Lib.hid (fun (a : Au.Arc) => Sp.addArc_arcs (p := pp) (a := a) hXi.out)
        have HAL := Lib.hid (fun (a : Au.Arc) => Sp.addArc_length n pp a)
        generalize n[pp].arcs = l at *
        have HVJ : Hid (∃ vj, vj = vals[pp].2.1) := ⟨_, rfl⟩
        obtain ⟨vj, hvj⟩ := HVJ.out
        rw [← hvj] at d7 HQ2 HARC
        clear hvj HVJ q1 q2 q3 e0 hGc hGf
        have b0 : wa.cell? ⟨bx, 0, none⟩ = some (.int .i64 lo) := by simp [World.cell?, HBK.out]
        have b1 : wa.cell? ⟨bx, 1, none⟩ = some (.int .i64 hi') := by simp [World.cell?, HBK.out]
        have hbxl : bx < wa.heap.size := (Array.getElem?_eq_some_iff.1 HBK.out).1
        have HSA : Hid (∀ W : World, W.heap[bx]? = wa.heap[bx]? → W.cell? ⟨bx, 0, none⟩ = some (.int .i64 lo) ∧ W.cell? ⟨bx, 1, none⟩ = some (.int .i64 hi')) := fun W e => by
          rw [HBK.out] at e
          exact ⟨by simp [World.cell?, e], by simp [World.cell?, e]⟩
        have HDN : Hid (((wa.alloc (.cells #[.int .i64 lo, .int .i64 hi', .int .i64 (nx : Int)] 63)).drew).cell? ⟨bx, 0, none⟩ = some (.int .i64 lo) ∧ ((wa.alloc (.cells #[.int .i64 lo, .int .i64 hi', .int .i64 (nx : Int)] 63)).drew).cell? ⟨bx, 1, none⟩ = some (.int .i64 hi')) := HSA.out _ (Go.Deep.blk_alloc_lt _ _ _ hbxl)
        have hq0 := HDN.out.1
        have hq1 := HDN.out.2
        have g7 : ((wa.alloc (.cells #[.int .i64 lo, .int .i64 hi', .int .i64 (nx : Int)] 63)).drew).cell? ⟨G, pp * 3 + 1, none⟩ = some vj := (World.cell?_of_block (w := wa) (a := ⟨G, pp * 3 + 1, none⟩) (Go.Deep.blk_alloc_lt _ _ _ hGl)).trans d7
        have hBE : Hid (Below wa.heap.size wa ((wa.alloc (.cells #[.int .i64 lo, .int .i64 hi', .int .i64 (nx : Int)] 63)).drew)) := ((Below.refl _ _).alloc (Nat.le_refl _) _).drew
        have hnw := Lib.hid (new_arcD wa lo hi' (nx : Int))
        have HBW : Hid (B ≤ wa.heap.size) := Nat.le_trans hB HB1.out.size
        have HGB := Lib.hid hGB
        have i6 : (pp : Int) < (nl : Int) := by omega
        clear hGB hGl hGk
        refine wp_region_held_drew (S := fun wx => wx.cell? ⟨bx, 0, none⟩ = some (.int .i64 lo) ∧ wx.cell? ⟨bx, 1, none⟩ = some (.int .i64 hi')) (by kernel_rfl) ⟨b0, b1⟩ (fun hHeld => ?_)
        refine wpAnyH_take (i := 0) (fuel := 17) (oi := ⟨_, _, _, _, _, _⟩) (v := ?_) rfl (by kernel_rfl) (by kernel_rfl) (by kernel_rfl) (fun _ _ _ h => h) (Or.inl ⟨by rfl, ?_⟩) (by assumption) ?_
        rotate_left
        · intro w _
          first | (go_simp; done) | (go_simp; with_reducible rfl)
        simp only [Act.put, List.setIfInBounds_toArray, List.set_cons_zero, List.set_cons_succ]
        refine wpAnyH_take (i := 1) (fuel := 16) (oi := ⟨_, _, _, _, _, _⟩) (v := ?_) rfl (by kernel_rfl) (by kernel_rfl) (by kernel_rfl) (fun _ _ _ h => h) (Or.inl ⟨by rfl, ?_⟩) (by assumption) ?_
        rotate_left
        · intro w _
          first | (go_simp; done) | (go_simp; with_reducible rfl)
        simp only [Act.put, List.setIfInBounds_toArray, List.set_cons_zero, List.set_cons_succ]
        refine wpAnyH_take (i := 2) (fuel := 15) (oi := ⟨_, _, _, _, _, _⟩) (v := ?_) rfl (by kernel_rfl) (by kernel_rfl) (by kernel_rfl) (fun _ _ _ h => h) (Or.inl ⟨by rfl, ?_⟩) (by assumption) ?_
        rotate_left
        · intro w _
          first | (go_simp; done) | (go_simp; with_reducible rfl)
        simp only [Act.put, List.setIfInBounds_toArray, List.set_cons_zero, List.set_cons_succ]
        refine wpAnyH_take (i := 3) (fuel := 14) (oi := ⟨_, _, _, _, _, _⟩) (v := ?_) rfl (by kernel_rfl) (by kernel_rfl) (by kernel_rfl) (fun _ _ _ h => h) (Or.inl ⟨by rfl, ?_⟩) (by assumption) ?_
        rotate_left
        · intro w _
          first | (go_simp; done) | (go_simp; with_reducible rfl)
        simp only [Act.put, List.setIfInBounds_toArray, List.set_cons_zero, List.set_cons_succ]
        refine wpAnyH_take (i := 4) (fuel := 13) (oi := ⟨_, _, _, _, _, _⟩) (v := ?_) rfl (by kernel_rfl) (by kernel_rfl) (by kernel_rfl) (fun _ _ _ h => h) (Or.inl ⟨by rfl, ?_⟩) (by assumption) ?_
        rotate_left
        · intro w _
          first | (go_simp; done) | (go_simp; with_reducible rfl)
        simp only [Act.put, List.setIfInBounds_toArray, List.set_cons_zero, List.set_cons_succ]
        refine wpAnyH_take (i := 5) (fuel := 12) (oi := ⟨_, _, _, _, _, _⟩) (v := ?_) rfl (by kernel_rfl) (by kernel_rfl) (by kernel_rfl) (fun _ _ _ h => h) (Or.inl ⟨by rfl, ?_⟩) (by assumption) ?_
        rotate_left
        · intro w _
          first | (go_simp; done) | (go_simp; with_reducible rfl)
        simp only [Act.put, List.setIfInBounds_toArray, List.set_cons_zero, List.set_cons_succ]
        refine wpAnyH_take (i := 7) (fuel := 11) (oi := ⟨_, _, _, _, _, _⟩) (v := ?_) rfl (by kernel_rfl) (by kernel_rfl) (by kernel_rfl) (fun _ _ _ h => h) (Or.inl ⟨by rfl, ?_⟩) (by assumption) ?_
        rotate_left
        · intro w _
          first | (go_simp; done) | (go_simp; with_reducible rfl)
        simp only [Act.put, List.setIfInBounds_toArray, List.set_cons_zero, List.set_cons_succ]
        refine wpAnyH_take (i := 8) (fuel := 10) (oi := ⟨_, _, _, _, _, _⟩) (v := ?_) rfl (by kernel_rfl) (by kernel_rfl) (by kernel_rfl) (fun _ _ _ h => h) (Or.inl ⟨by rfl, ?_⟩) (by assumption) ?_
        rotate_left
        · intro w hSw
          obtain ⟨h1, _⟩ := hSw
          first | (go_simp; done) | (go_simp; with_reducible rfl)
        simp only [Act.put, List.setIfInBounds_toArray, List.set_cons_zero, List.set_cons_succ]
        refine wpAnyH_take (i := 9) (fuel := 9) (oi := ⟨_, _, _, _, _, _⟩) (v := ?_) rfl (by kernel_rfl) (by kernel_rfl) (by kernel_rfl) (fun _ _ _ h => h) (Or.inl ⟨by rfl, ?_⟩) (by assumption) ?_
        rotate_left
        · intro w _
          first | (go_simp; done) | (go_simp; with_reducible rfl)
        simp only [Act.put, List.setIfInBounds_toArray, List.set_cons_zero, List.set_cons_succ]
        refine wpAnyH_take (i := 10) (fuel := 8) (oi := ⟨_, _, _, _, _, _⟩) (v := ?_) rfl (by kernel_rfl) (by kernel_rfl) (by kernel_rfl) (fun _ _ _ h => h) (Or.inl ⟨by rfl, ?_⟩) (by assumption) ?_
        rotate_left
        · intro w hSw
          obtain ⟨_, h2⟩ := hSw
          first | (go_simp; done) | (go_simp; with_reducible rfl)
        simp only [Act.put, List.setIfInBounds_toArray, List.set_cons_zero, List.set_cons_succ]
        refine wpAnyH_take (i := 11) (fuel := 7) (oi := ⟨_, _, _, _, _, _⟩) (v := ?_) rfl (by kernel_rfl) (by kernel_rfl) (by kernel_rfl) (fun _ _ _ h => h) (Or.inl ⟨by rfl, ?_⟩) (by assumption) ?_
        rotate_left
        · intro w _
          first | (go_simp; done) | (go_simp; with_reducible rfl)
        simp only [Act.put, List.setIfInBounds_toArray, List.set_cons_zero, List.set_cons_succ]
        refine wpAnyH_take (i := 12) (fuel := 6) (oi := ⟨_, _, _, _, _, _⟩) (v := ?_) rfl (by kernel_rfl) (by kernel_rfl) (by kernel_rfl) (fun _ _ _ h => h) (Or.inl ⟨by rfl, ?_⟩) (by assumption) ?_
        rotate_left
        · intro w _
          first | (go_simp; done) | (go_simp; with_reducible rfl)
        simp only [Act.put, List.setIfInBounds_toArray, List.set_cons_zero, List.set_cons_succ]
        refine wpAnyH_ready (rs := [6, 13]) (by kernel_rfl) (by simp) ?_
        refine AllReadyH.cons (o := ⟨_, _, _, _, _, _⟩) rfl (fun K hK => ?_) ?_
        · go_simp
          refine hK.out _ _ ⟨b0, b1⟩ (fun hHeld => ?_)
          clear hK K
          refine wpAnyH_ready (rs := [13]) (by kernel_rfl) (by simp) ?_
          refine AllReadyH.cons (o := ⟨_, _, _, _, _, _⟩) rfl (fun K hK => ?_) AllReadyH.nil
          go_simp
          refine hK.out _ _ ⟨hq0, hq1⟩ (fun hHeld => ?_)
          clear hK K
          refine wpAnyH_ready (rs := [14]) (by kernel_rfl) (by simp) ?_
          refine AllReadyH.cons (o := ⟨_, _, _, _, _, _⟩) rfl (fun K hK => ?_) AllReadyH.nil
          refine step_pushA (by rfl) _ _ (by rfl) B vj l (by rfl) HQ2.out hBE.out HBW.out lo hi' (nx : Int) ⟨wa.heap.size, 0, none⟩ hnw.out (by rfl) (by have := HXp.out; omega) ?_
          intro g5 cp5 w5 ho5 hg5 hn5
          have HKP : Hid (∀ g, g < wa.heap.size → vj.ownBlock ≠ some g → w5.heap[g]? = wa.heap[g]?) := fun g hgl hne => by
            refine (hg5.block g (by have := hBE.out.size; omega) (fun e => hne e.symm)).trans (Go.Deep.blk_alloc_lt _ _ _ hgl)
          have HARC5 := Lib.hid (HARC.out w5 (.slice (some ⟨g5, 0, none⟩) (l.length + 1) cp5) ⟨lo, hi', (nx : Int)⟩ ho5 HKP.out (fun g hg => by
            have e5 : g5 = g := by simpa [Value.ownBlock] using hg
            rw [← e5]
            exact hn5))
          have HB5 : Hid (Below B w w5) := by
            have h1 : Below B w ((wa.alloc (.cells #[.int .i64 lo, .int .i64 hi', .int .i64 (nx : Int)] 63)).drew) := (HB1.out.alloc HBW.out _).drew
            exact h1.grown hg5 (Nat.le_trans hB h1.size) (fun j hj => (HQ2.out.lt j hj).1)
          have k0 := HSA.out w5 (by
            refine HKP.out bx hbxl fun e => ?_
            obtain ⟨c', fz', hc'⟩ := HQ2.out.kind bx e
            exact kinds_neY HBK.out hc' (by decide) rfl)
          have k1 : w5.cell? ⟨G, pp * 3 + 1, none⟩ = some vj := by
            refine (World.cell?_of_block (w := wa) (a := ⟨G, pp * 3 + 1, none⟩) HARC5.out.2.2.2).trans d7
          have k2 : w5.frozen? ⟨G, pp * 3 + 1, none⟩ = false := (World.frozen?_of_block (w := wa) (a := ⟨G, pp * 3 + 1, none⟩) HARC5.out.2.2.2).trans df
          have z3 := HSA.out (w5.setCell ⟨G, pp * 3 + 1, none⟩ (.slice (some ⟨g5, 0, none⟩) (l.length + 1) cp5)) ((HARC5.out.2.1 bx _ _ _ HBK.out (by decide) (by decide)))
          clear hg5 hn5 ho5
          refine hK.out _ _ k0 (fun hHeld => ?_)
          clear hK K
          simp only [Act.put, List.setIfInBounds_toArray, List.set_cons_zero, List.set_cons_succ]
          refine wpAnyH_ready (rs := [15]) (by kernel_rfl) (by simp) ?_
          refine AllReadyH.cons (o := ⟨_, _, _, _, _, _⟩) rfl (fun K hK => ?_) AllReadyH.nil
          go_simp
          refine hK.out _ _ k0 (fun hHeld => ?_)
          clear hK K
          refine wpAnyH_ready (rs := [16]) (by kernel_rfl) (by simp) ?_
          refine AllReadyH.cons (o := ⟨_, _, _, _, _, _⟩) rfl (fun K hK => ?_) AllReadyH.nil
          go_simp
          refine hK.out _ _ k0 (fun hHeld => ?_)
          clear hK K
          refine wpAnyH_ready (rs := [17]) (by kernel_rfl) (by simp) ?_
          refine AllReadyH.cons (o := ⟨_, _, _, _, _, _⟩) rfl (fun K hK => ?_) AllReadyH.nil
          go_simp
          refine hK.out _ _ z3 (fun hHeld => ?_)
          clear hK K
          refine wpAnyH_done (by kernel_rfl) ?_ _
          have HB6 : Hid (Below B w (w5.setCell ⟨G, pp * 3 + 1, none⟩ (.slice (some ⟨g5, 0, none⟩) (l.length + 1) cp5))) := HB5.out.setCell HGB.out _
          have HK6 : Hid (KeptT w (w5.setCell ⟨G, pp * 3 + 1, none⟩ (.slice (some ⟨g5, 0, none⟩) (l.length + 1) cp5))) := HK1.out.trans HARC5.out.2.1
          have HO6 : Hid (LoO (w5.setCell ⟨G, pp * 3 + 1, none⟩ (.slice (some ⟨g5, 0, none⟩) (l.length + 1) cp5)) B (.slice (some ⟨G, 0, none⟩) nl cp0) (vals.set pp (vals[pp].1, .slice (some ⟨g5, 0, none⟩) (l.length + 1) cp5, vals[pp].2.2)) (Sp.addArc n pp ⟨lo, hi', (nx : Int)⟩)) := by
            have := HARC5.out.1
            rw [← HNL.out] at this
            exact this
          have HLT2 : Hid (i + 1 < m → nx < (Sp.addArc n pp ⟨lo, hi', (nx : Int)⟩).length) := fun e => by rw [HAL.out]; exact HLT.out e
          have HNB2 : (Sp.addArc n pp ⟨lo, hi', (nx : Int)⟩).length ≤ L.length + (i + 1) := by rw [HAL.out, ← HNL.out]; exact HNB
          clear k1 k2 z3 d7 df g7 b0 b1 hq0 hq1 k0
          try (obtain rfl := HNQ.out)
          go_wp2_with fail
          go_roundg (m - (i + 1))
          case rel => exact ⟨i + 1, nx, _, _, _, by omega, rfl, rfl, rfl, by go_num, HNB2, HLT2, HO6, HEQ, HARCS.out _, HB6, HK6⟩
          case measure => omega
        refine AllReadyH.cons (o := ⟨_, _, _, _, _, _⟩) rfl (fun K hK => ?_) AllReadyH.nil
        go_simp
        refine hK.out _ _ ⟨hq0, hq1⟩ (fun hHeld => ?_)
        clear hK K
        refine wpAnyH_ready (rs := [6]) (by kernel_rfl) (by simp) ?_
        refine AllReadyH.cons (o := ⟨_, _, _, _, _, _⟩) rfl (fun K hK => ?_) AllReadyH.nil
        go_simp
        refine hK.out _ _ ⟨hq0, hq1⟩ (fun hHeld => ?_)
        clear hK K
        refine wpAnyH_ready (rs := [14]) (by kernel_rfl) (by simp) ?_
        refine AllReadyH.cons (o := ⟨_, _, _, _, _, _⟩) rfl (fun K hK => ?_) AllReadyH.nil
        refine step_pushA (by rfl) _ _ (by rfl) B vj l (by rfl) HQ2.out hBE.out HBW.out lo hi' (nx : Int) ⟨wa.heap.size, 0, none⟩ hnw.out (by rfl) (by have := HXp.out; omega) ?_
        intro g5 cp5 w5 ho5 hg5 hn5
        have HKP : Hid (∀ g, g < wa.heap.size → vj.ownBlock ≠ some g → w5.heap[g]? = wa.heap[g]?) := fun g hgl hne => by
          refine (hg5.block g (by have := hBE.out.size; omega) (fun e => hne e.symm)).trans (Go.Deep.blk_alloc_lt _ _ _ hgl)
        have HARC5 := Lib.hid (HARC.out w5 (.slice (some ⟨g5, 0, none⟩) (l.length + 1) cp5) ⟨lo, hi', (nx : Int)⟩ ho5 HKP.out (fun g hg => by
          have e5 : g5 = g := by simpa [Value.ownBlock] using hg
          rw [← e5]
          exact hn5))
        have HB5 : Hid (Below B w w5) := by
          have h1 : Below B w ((wa.alloc (.cells #[.int .i64 lo, .int .i64 hi', .int .i64 (nx : Int)] 63)).drew) := (HB1.out.alloc HBW.out _).drew
          exact h1.grown hg5 (Nat.le_trans hB h1.size) (fun j hj => (HQ2.out.lt j hj).1)
        have k0 := HSA.out w5 (by
          refine HKP.out bx hbxl fun e => ?_
          obtain ⟨c', fz', hc'⟩ := HQ2.out.kind bx e
          exact kinds_neY HBK.out hc' (by decide) rfl)
        have k1 : w5.cell? ⟨G, pp * 3 + 1, none⟩ = some vj := by
          refine (World.cell?_of_block (w := wa) (a := ⟨G, pp * 3 + 1, none⟩) HARC5.out.2.2.2).trans d7
        have k2 : w5.frozen? ⟨G, pp * 3 + 1, none⟩ = false := (World.frozen?_of_block (w := wa) (a := ⟨G, pp * 3 + 1, none⟩) HARC5.out.2.2.2).trans df
        have z3 := HSA.out (w5.setCell ⟨G, pp * 3 + 1, none⟩ (.slice (some ⟨g5, 0, none⟩) (l.length + 1) cp5)) ((HARC5.out.2.1 bx _ _ _ HBK.out (by decide) (by decide)))
        clear hg5 hn5 ho5
        refine hK.out _ _ k0 (fun hHeld => ?_)
        clear hK K
        simp only [Act.put, List.setIfInBounds_toArray, List.set_cons_zero, List.set_cons_succ]
        refine wpAnyH_ready (rs := [15]) (by kernel_rfl) (by simp) ?_
        refine AllReadyH.cons (o := ⟨_, _, _, _, _, _⟩) rfl (fun K hK => ?_) AllReadyH.nil
        go_simp
        refine hK.out _ _ k0 (fun hHeld => ?_)
        clear hK K
        refine wpAnyH_ready (rs := [16]) (by kernel_rfl) (by simp) ?_
        refine AllReadyH.cons (o := ⟨_, _, _, _, _, _⟩) rfl (fun K hK => ?_) AllReadyH.nil
        go_simp
        refine hK.out _ _ k0 (fun hHeld => ?_)
        clear hK K
        refine wpAnyH_ready (rs := [17]) (by kernel_rfl) (by simp) ?_
        refine AllReadyH.cons (o := ⟨_, _, _, _, _, _⟩) rfl (fun K hK => ?_) AllReadyH.nil
        go_simp
        refine hK.out _ _ z3 (fun hHeld => ?_)
        clear hK K
        refine wpAnyH_done (by kernel_rfl) ?_ _
        have HB6 : Hid (Below B w (w5.setCell ⟨G, pp * 3 + 1, none⟩ (.slice (some ⟨g5, 0, none⟩) (l.length + 1) cp5))) := HB5.out.setCell HGB.out _
        have HK6 : Hid (KeptT w (w5.setCell ⟨G, pp * 3 + 1, none⟩ (.slice (some ⟨g5, 0, none⟩) (l.length + 1) cp5))) := HK1.out.trans HARC5.out.2.1
        have HO6 : Hid (LoO (w5.setCell ⟨G, pp * 3 + 1, none⟩ (.slice (some ⟨g5, 0, none⟩) (l.length + 1) cp5)) B (.slice (some ⟨G, 0, none⟩) nl cp0) (vals.set pp (vals[pp].1, .slice (some ⟨g5, 0, none⟩) (l.length + 1) cp5, vals[pp].2.2)) (Sp.addArc n pp ⟨lo, hi', (nx : Int)⟩)) := by
          have := HARC5.out.1
          rw [← HNL.out] at this
          exact this
        have HLT2 : Hid (i + 1 < m → nx < (Sp.addArc n pp ⟨lo, hi', (nx : Int)⟩).length) := fun e => by rw [HAL.out]; exact HLT.out e
        have HNB2 : (Sp.addArc n pp ⟨lo, hi', (nx : Int)⟩).length ≤ L.length + (i + 1) := by rw [HAL.out, ← HNL.out]; exact HNB
        clear k1 k2 z3 d7 df g7 b0 b1 hq0 hq1 k0
        try (obtain rfl := HNQ.out)
        go_wp2_with fail
        go_roundg (m - (i + 1))
        case rel => exact ⟨i + 1, nx, _, _, _, by omega, rfl, rfl, rfl, by go_num, HNB2, HLT2, HO6, HEQ, HARCS.out _, HB6, HK6⟩
        case measure => omega
    · obtain rfl : i = m := by omega
      have e1 : row.drop i = [] := List.drop_of_length_le (by rw [HM.out]; exact Nat.le_refl _)
      rw [e1] at hE
      clear e1
      go_wp2_with fail
      go_ret
      refine ⟨_, vals, rfl, ?_, hbel.out, hkt.out⟩
      rw [← hE.out]
      exact hO.out
end Go.Proofs.YthhfmcikfdagiaaDoor

/-
  What Lead answers: the characters of a range lead from one state to another.
-/
namespace Go.Proofs.YthhfmcikfdagiaaDoor
open Go.RowKit

namespace Sp
theorem leadBy_arcs {n : List Au.Lo} {p q X : Nat} {row : List (Int × Int)} (hp : p < n.length) (h : ∀ s ∈ n, s.arcs.length ≤ X) : ∀ s ∈ leadBy q n p row, s.arcs.length ≤ X + 1 := by
  cases row with
  | nil => intro s hs; have := h s hs; omega
  | cons r rs =>
    rw [leadBy_form q rs r n p hp]
    intro s hs
    rcases List.mem_append.1 hs with hs | hs
    · exact addArc_arcs h s hs
    · obtain ⟨j, hj⟩ := List.mem_iff_getElem?.1 hs
      have hl : j < rs.length := by have := (List.getElem?_eq_some_iff.1 hj).1; rwa [chainL_length] at this
      rw [chainL_at q n.length rs j hl] at hj
      cases hj
      simp
theorem lead_bounds {L : List Au.Lo} {p q X : Nat} (hp : p < L.length) (hX : ∀ s ∈ L, s.arcs.length ≤ X) : ∀ (m : Nat) (R : List (List (Int × Int))), R.length = m → (∀ row ∈ R, row.length ≤ 4) → L.length ≤ (lead L p q R).length ∧ (lead L p q R).length ≤ L.length + 4 * m ∧ ∀ s ∈ lead L p q R, s.arcs.length ≤ X + m
  | 0, R, hR, _ => by
    obtain rfl := List.length_eq_zero_iff.1 hR
    exact ⟨Nat.le_refl _, Nat.le_refl _, hX⟩
  | m + 1, R, hR, hr => by
    obtain ⟨T, row, rfl⟩ : ∃ T row, R = T ++ [row] := ⟨R.dropLast, R.getLast (by intro e; rw [e] at hR; simp at hR), (List.dropLast_concat_getLast _).symm⟩
    obtain ⟨i1, i2, i3⟩ := lead_bounds (q := q) hp hX m T (by simpa using hR) fun r h => hr r (List.mem_append_left _ h)
    have hrow := hr row (by simp)
    rw [lead_snoc]
    have hp2 : p < (lead L p q T).length := by omega
    have hl := leadBy_length q (lead L p q T) p row hp2
    exact ⟨by omega, by omega, leadBy_arcs hp2 i3⟩
end Sp
theorem rowK {w w' : World} (h : KeptT w w') {g j : Nat} {v : Value} (hk : ∃ (c : Array Value) (fz : Nat × Nat), w.heap[g]? = some (Obj.cells c 91 fz)) (hc : w.cell? ⟨g, j, none⟩ = some v) : w'.cell? ⟨g, j, none⟩ = some v := by
  obtain ⟨c, fz, hg⟩ := hk
  exact (World.cell?_of_block (w := w) (a := ⟨g, j, none⟩) (h g c _ fz hg (by decide) (by decide))).trans hc

set_option maxRecDepth 100000 in
set_option maxHeartbeats 4000000 in
theorem lead_any (F : Nat → Prop) (w : World) (v : Value) (L : List Au.Lo) (h : LoS F w v L) (hL : L.length ≤ 1000) (hs : ∀ s ∈ L, s.arcs.length ≤ 1099511627 ∧ s.free.length * 8 ≤ 140737488355328) (p q : Nat) (lo hi : Int) (hp : p < L.length) (hq : q < L.length) :
    Calls Tryd.prog 24 #[v, .int .i64 (p : Int), .int .i64 (q : Int), .int .i64 lo, .int .i64 hi] w fun e w' => ∃ v' vals, e = .returned v' ∧ LoO w' w.heap.size v' vals (Sp.lead L p q (Sp.rows lo hi)) ∧ Below w.heap.size w w' := by
  have HC := Lib.hid (copyOf_any F w v L h hL fun s hs' => ⟨by have := (hs s hs').1; omega, (hs s hs').2⟩)
  have hb1 : inB (p : Int) L.length = true := decide_eq_true ⟨by omega, by omega⟩
  have hb2 : inB (q : Int) L.length = true := decide_eq_true ⟨by omega, by omega⟩
  obtain ⟨a, cap, rfl, _, hcp, _⟩ := h
  have H1 := Lib.hid (fun w => isPlace_any5 (p : Int) L.length w)
  have H2 := Lib.hid (fun w => isPlace_any5 (q : Int) L.length w)
  rw [hb1] at H1
  rw [hb2] at H2
  have HRW := Lib.hid (fun w => rows_any lo hi w)
  have HFEW := Sp.rows_few lo hi
  have HOK := Lib.hid (fun row (hr : row ∈ Sp.rows lo hi) => Sp.rows_shape hr)
  have HBD := Lib.hid (fun (m : Nat) (T : List (List (Int × Int))) (e : T.length = m) (ht : ∀ row ∈ T, row.length ≤ 4) => Sp.lead_bounds (q := q) hp (fun s hs' => (hs s hs').1) m T e ht)
  generalize Sp.rows lo hi = R at *
  obtain ⟨n, hn⟩ : ∃ n, n = L.length := ⟨_, rfl⟩
  have HN := Lib.hid hn
  rw [← hn] at hL HC H1 H2 hp hq ⊢
  clear hn hb1 hb2 hs
  go_enter Tryd.func24, Tryd.ntmps24
  go_wp2_with fail
  refine HC.out.mono ?_
  rintro e w1 ⟨v', vals, rfl, hO, hb⟩
  have HO1 := Lib.hid hO
  have HB1 := Lib.hid hb
  clear hO hb HC
  go_wp2_with fail
  refine (H1.out w1).mono ?_
  rintro e w2 ⟨rfl, rfl⟩
  go_wp2_with fail
  refine (H2.out w1).mono ?_
  rintro e w2 ⟨rfl, rfl⟩
  go_wp2_with fail
  refine (HRW.out w1).mono ?_
  rintro e w2 ⟨vr, gs, rfl, hR, hb⟩
  have HO2 := Lib.hid (HO1.out.keep fun k hk => hb.block k hk)
  have HB2 : Hid (Below w.heap.size w w2) := HB1.out.trans (hb.mono HB1.out.size)
  have HR := Lib.hid hR
  obtain ⟨nr, hnr⟩ : ∃ nr, nr = R.length := ⟨_, rfl⟩
  obtain ⟨ar, cr, rfl, _, _, hform⟩ := HR.out.form
  have HF := Lib.hid hform
  have HNR := Lib.hid hnr
  rw [← hnr] at HFEW ⊢
  clear hR hb hform hnr HO1 HB1 HRW
  go_wp2_with fail
  go_loopg [11, 33] nr (fun g' s11 s33 wx => ∃ (k : Nat) (vv : Value) (vals : List LoV), k ≤ nr ∧ g' = nr - k ∧ vv = s11 ∧ s33 = .int .i64 k ∧ Hid (LoO wx w.heap.size vv vals (Sp.lead L p q (R.take k))) ∧ Hid (Below w.heap.size w wx) ∧ Hid (KeptT w2 wx))
  case atStart => exact ⟨0, _, vals, Nat.zero_le _, rfl, rfl, rfl, HO2, HB2, KeptT.refl _⟩
  case round =>
    obtain ⟨k, vv, vals, hk, rfl, rfl, rfl, hO, hbel, hkt⟩ := hrel
    by_cases hkn : k < nr
    · have i1 : (k : Int) < (nr : Int) := by omega
      have hkR : k < R.length := by rw [← HNR.out]; exact hkn
      have hkg : k < gs.length := by rw [HR.out.len]; exact hkR
      obtain ⟨gr, rfl, _, hgr, hcell⟩ := HF.out (by omega)
      have c1 := rowK hkt.out (HR.out.kind gr rfl).2.2 (hcell k hkg hkR)
      have HG := Lib.hid (hkt.out.row (HR.out.row k hkg hkR).2)
      have HSH := Lib.hid (HOK.out R[k] (List.getElem_mem hkR))
      obtain ⟨b1, b2, b3⟩ := HBD.out k (R.take k) (by rw [List.length_take]; omega) fun row hr => (HOK.out row (List.mem_of_mem_take hr)).len
      have HST : Hid (Sp.lead L p q (R.take (k + 1)) = Sp.leadBy q (Sp.lead L p q (R.take k)) p R[k]) := by
        show _ = _
        rw [List.take_succ_eq_append_getElem hkR, Sp.lead_snoc]
      obtain ⟨m, hm⟩ : ∃ m, R[k].length = m := ⟨_, rfl⟩
      have HCL := Lib.hid (leadBy_any wr w.heap.size vv vals _ hO.out p q gs[k] m R[k] (by rw [← HN.out] at b1; omega) HG.out hm (by rw [← hm]; exact HSH.out.len) (by rw [← HN.out] at b2; omega) _ b3 (by omega) hbel.out.size HSH.out.rng)
      rw [hm] at c1
      clear hcell hm b1 b2 b3 hO
      go_wp2_with fail
      refine HCL.out.mono ?_
      rintro e w3 ⟨v3, vals3, rfl, hO3, hb3, hk3⟩
      have HO3 : Hid (LoO w3 w.heap.size v3 vals3 (Sp.lead L p q (R.take (k + 1)))) := by
        show LoO _ _ _ _ _
        rw [HST.out]
        exact hO3
      have HB3 : Hid (Below w.heap.size w w3) := hbel.out.trans hb3
      have HK3 : Hid (KeptT w2 w3) := hkt.out.trans hk3
      clear hO3 hb3 hk3 c1
      go_wp2_with fail
      go_roundg (nr - (k + 1))
      case rel => exact ⟨k + 1, _, vals3, by omega, rfl, rfl, by go_num, HO3, HB3, HK3⟩
      case measure => omega
    · obtain rfl : k = nr := by omega
      have e : R.take k = R := List.take_of_length_le (by rw [← HNR.out]; exact Nat.le_refl _)
      rw [e] at hO
      clear e
      go_wp2_with fail
      go_ret
      exact ⟨_, vals, rfl, hO.out, hbel.out⟩
end Go.Proofs.YthhfmcikfdagiaaDoor

/-
  The automaton of a pattern's characters: states in memory of the call's own, characters led between them one behind the other, an end, made tight.
-/
namespace Go.Proofs.YthhfmcikfdagiaaDoor
open Go.RowKit

theorem row_mono {w : World} {B C : Nat} {t : TypeId} {z : Nat} {v : Value} {n : Nat} {xs : List Value} (h : w.ownsRow B t z v n xs) (hC : C ≤ B) : w.ownsRow C t z v n xs := by
  refine ⟨h.1, ?_⟩
  rcases h.2 with h1 | ⟨g, cap, cur, h1, hg, hr⟩
  · exact .inl h1
  · exact .inr ⟨g, cap, cur, h1, Nat.le_trans hC hg, hr⟩
theorem LoO.base {w : World} {B C : Nat} {v : Value} {vals : List LoV} {L : List Au.Lo} (h : LoO w B v vals L) (hC : C ≤ B) : LoO w C v vals L :=
  ⟨row_mono h.own hC, ⟨h.each.len, fun j a b => ⟨(h.each.each j a b).1, row_mono (h.each.each j a b).2.1 hC, row_mono (h.each.each j a b).2.2 hC⟩, h.each.apart⟩⟩
theorem losCell_same (n j : Nat) : losCell (List.replicate n (false, .slice none 0 0, .slice none 0 0)) j = losCell [] j := by
  unfold losCell
  rw [List.getD_eq_getElem?_getD, List.getD_eq_getElem?_getD, List.getElem?_replicate]
  split <;> rfl
/-- States without arcs, in a new block. -/
theorem blank_new (w : World) (n : Nat) (hn : n ≤ 1000) : LoO (w.alloc (.cells (madeCells #[.bool false, .slice none 0 0, .slice none 0 0] (n * 3)) 58)) w.heap.size (.slice (some ⟨w.heap.size, 0, none⟩) n n) (List.replicate n (false, .slice none 0 0, .slice none 0 0)) (Wl.blank n) := by
  have hr := (madeLo w n).congr fun j _ => (losCell_same n j).symm
  have hbl : (Wl.blank n).length = n := by simp [Wl.blank]
  refine ⟨?_, ?_⟩
  · have := own_of_rowIs hr (by simp) (Nat.le_refl _) hn
    show World.ownsRow _ _ _ _ _ (Wl.blank n).length _
    rw [hbl]
    exact this
  · refine ⟨by rw [hbl]; simp, fun j a b => ?_, fun i j hi hj _ g hg => ?_⟩
    · have e1 : (List.replicate n ((false, .slice none 0 0, .slice none 0 0) : LoV))[j] = (false, .slice none 0 0, .slice none 0 0) := List.getElem_replicate _
      have e2 : (Wl.blank n)[j] = ⟨false, [], []⟩ := List.getElem_replicate _
      rw [e1, e2]
      exact ⟨rfl, World.ownsRow_nil _ _ _ _, World.ownsRow_nil _ _ _ _⟩
    · rw [List.getElem_replicate] at hg
      cases hg
/-- An end among states of the call's own. -/
theorem LoO.fin {w : World} {B G cap p : Nat} {vals : List LoV} {L : List Au.Lo} (h : LoO w B (.slice (some ⟨G, 0, none⟩) L.length cap) vals L) (hpv : p < vals.length) :
    LoO (w.setCell ⟨G, p * 3, none⟩ (.bool true)) B (.slice (some ⟨G, 0, none⟩) L.length cap) (vals.set p (true, vals[p].2.1, vals[p].2.2)) (Wl.setF L p) := by
  have hl := h.each.len
  obtain ⟨hGB, hGl, cG, fzG, hG⟩ := h.kind G rfl
  have far : ∀ g, g ≠ G → (w.setCell ⟨G, p * 3, none⟩ (.bool true)).heap[g]? = w.heap[g]? := fun g hne => Go.Deep.blk_setCell_other _ _ _ _ hne
  refine ⟨?_, ?_⟩
  · have hs := (h.own.stored (p * 3) (.bool true)).1
    have e : (losV vals).set (p * 3) (.bool true) = losV (vals.set p (true, vals[p].2.1, vals[p].2.2)) := by
      clear hs far h hl
      induction vals generalizing p with
      | nil => simp at hpv
      | cons x t ih =>
        cases p with
        | zero => rfl
        | succ p =>
          have hp' : p < t.length := by simpa using hpv
          have := ih hp'
          simp only [List.set_cons_succ, List.getElem_cons_succ]
          show (_ :: _ :: _ :: losV t).set ((p + 1) * 3) (.bool true) = _ :: _ :: _ :: losV _
          rw [show (p + 1) * 3 = p * 3 + 1 + 1 + 1 by omega, List.set_cons_succ, List.set_cons_succ, List.set_cons_succ, this]
    rw [e] at hs
    rw [Wl.setF_length]
    exact hs
  · have hset : ∀ j (hj : j < (vals.set p (true, vals[p].2.1, vals[p].2.2)).length), (vals.set p (true, vals[p].2.1, vals[p].2.2))[j] = if p = j then (true, vals[p].2.1, vals[p].2.2) else vals[j]'(by simpa using hj) := fun j hj => by rw [List.getElem_set]
    have hadd : ∀ j (hj : j < (Wl.setF L p).length), (Wl.setF L p)[j] = if p = j then ⟨true, (L[j]'(by simpa [Wl.setF_length] using hj)).arcs, (L[j]'(by simpa [Wl.setF_length] using hj)).free⟩ else L[j]'(by simpa [Wl.setF_length] using hj) := fun j hj => by
      have := Wl.setF_at L p j
      rw [List.getElem?_eq_getElem hj, List.getElem?_eq_getElem (by simpa [Wl.setF_length] using hj)] at this
      simpa using this
    have hboth : ∀ j (hj : j < (vals.set p (true, vals[p].2.1, vals[p].2.2)).length), ((vals.set p (true, vals[p].2.1, vals[p].2.2))[j]).2 = (vals[j]'(by simpa using hj)).2 := fun j hj => by
      rw [hset j hj]
      split
      · rename_i e; subst e; rfl
      · rfl
    refine ⟨by rw [List.length_set, Wl.setF_length]; exact hl, fun j a b => ?_, fun i j hi hj hne g hgi hgj => ?_⟩
    · have ha : j < vals.length := by simpa using a
      obtain ⟨r1, r2, r3⟩ := h.each.each j ha (by omega)
      have q2 : OwnA (w.setCell ⟨G, p * 3, none⟩ (.bool true)) B vals[j].2.1 (L[j]'(by omega)).arcs := r2.keep fun k hk => by
        obtain ⟨c, fz, hc⟩ := r2.kind k hk
        exact far k (kinds_neY hc hG (by decide))
      have q3 : OwnZ (w.setCell ⟨G, p * 3, none⟩ (.bool true)) B vals[j].2.2 (L[j]'(by omega)).free := ownsRow_keep r3 fun k hk => by
        obtain ⟨_, hkl, c, fz, hc⟩ := r3.kind k hk
        exact far k (kinds_neY hc hG (by decide))
      rw [hset j a, hadd j b]
      by_cases e : p = j
      · subst e
        rw [if_pos rfl, if_pos rfl]
        exact ⟨rfl, q2, q3⟩
      · rw [if_neg e, if_neg e]
        exact ⟨r1, q2, q3⟩
    · have hi' : i < vals.length := by simpa using hi
      have hj' : j < vals.length := by simpa using hj
      rw [hboth i hi] at hgi
      rw [hboth j hj] at hgj
      exact h.each.apart i j hi' hj' hne g hgi hgj
namespace Wl
end Wl
end Go.Proofs.YthhfmcikfdagiaaDoor

/-
  Loose states of the call's own: what one leads to by nothing is said anew; where a state stands, the program's closure.
-/
namespace Go.Proofs.YthhfmcikfdagiaaDoor
open Go.RowKit

namespace Lv
theorem setR_at (L : List Au.Lo) (p : Nat) (f : List Int) (i : Nat) : (setR L p f)[i]? = (L[i]?).map fun s => if p = i then ⟨s.fin, s.arcs, f⟩ else s := by
  unfold setR
  rw [List.getElem?_modify]
  cases L[i]? <;> simp
theorem setR_length (L : List Au.Lo) (p : Nat) (f : List Int) : (setR L p f).length = L.length := List.length_modify _ _ _
end Lv
theorem ownZ_lit (w : World) (zs : List Int) {B : Nat} (hB : B ≤ w.heap.size) (hn : zs.length ≤ 1000) : OwnZ (w.alloc (.cells (zs.map (Value.int .i64)).toArray 3)) B (.slice (some ⟨w.heap.size, 0, none⟩) zs.length zs.length) zs :=
  ⟨by simp, .inr ⟨w.heap.size, zs.length, _, rfl, hB, Go.Deep.blk_alloc_new _ _, Nat.le_refl _, by unfold maxLen; omega, by simp, by rw [Nat.mul_one]; exact List.take_of_length_le (by simp)⟩⟩
/-- What leads on by nothing, said anew among states of the call's own. -/
theorem LoO.free {w : World} {B G cap p : Nat} {vals : List LoV} {L : List Au.Lo} (h : LoO w B (.slice (some ⟨G, 0, none⟩) L.length cap) vals L) (hpv : p < vals.length) {vf : Value} {l : List Int} (hz : OwnZ w B vf l) :
    LoO (w.setCell ⟨G, p * 3 + 2, none⟩ vf) B (.slice (some ⟨G, 0, none⟩) L.length cap) (vals.set p (vals[p].1, vals[p].2.1, vf)) (Lv.setR L p l) := by
  have hl := h.each.len
  obtain ⟨hGB, hGl, cG, fzG, hG⟩ := h.kind G rfl
  have far : ∀ g, g ≠ G → (w.setCell ⟨G, p * 3 + 2, none⟩ vf).heap[g]? = w.heap[g]? := fun g hne => Go.Deep.blk_setCell_other _ _ _ _ hne
  have hz2 : OwnZ (w.setCell ⟨G, p * 3 + 2, none⟩ vf) B vf l := ownsRow_keep hz fun k hk => by
    obtain ⟨_, hkl, c, fz, hc⟩ := hz.kind k hk
    exact far k (kinds_neY hc hG (by decide))
  refine ⟨?_, ?_⟩
  · have hs := (h.own.stored (p * 3 + 2) vf).1
    have e : (losV vals).set (p * 3 + 2) vf = losV (vals.set p (vals[p].1, vals[p].2.1, vf)) := by
      clear hs far h hl hz2
      induction vals generalizing p with
      | nil => simp at hpv
      | cons x t ih =>
        cases p with
        | zero => rfl
        | succ p =>
          have hp' : p < t.length := by simpa using hpv
          have := ih hp'
          simp only [List.set_cons_succ, List.getElem_cons_succ]
          show (_ :: _ :: _ :: losV t).set ((p + 1) * 3 + 2) vf = _ :: _ :: _ :: losV _
          rw [show (p + 1) * 3 + 2 = p * 3 + 2 + 1 + 1 + 1 by omega, List.set_cons_succ, List.set_cons_succ, List.set_cons_succ, this]
    rw [e] at hs
    rw [Lv.setR_length]
    exact hs
  · have hset : ∀ j (hj : j < (vals.set p (vals[p].1, vals[p].2.1, vf)).length), (vals.set p (vals[p].1, vals[p].2.1, vf))[j] = if p = j then (vals[p].1, vals[p].2.1, vf) else vals[j]'(by simpa using hj) := fun j hj => by rw [List.getElem_set]
    have hadd : ∀ j (hj : j < (Lv.setR L p l).length), (Lv.setR L p l)[j] = if p = j then ⟨(L[j]'(by simpa [Lv.setR_length] using hj)).fin, (L[j]'(by simpa [Lv.setR_length] using hj)).arcs, l⟩ else L[j]'(by simpa [Lv.setR_length] using hj) := fun j hj => by
      have := Lv.setR_at L p l j
      rw [List.getElem?_eq_getElem hj, List.getElem?_eq_getElem (by simpa [Lv.setR_length] using hj)] at this
      simpa using this
    have hboth : ∀ j (hj : j < (vals.set p (vals[p].1, vals[p].2.1, vf)).length), ((vals.set p (vals[p].1, vals[p].2.1, vf))[j]).2.1 = (vals[j]'(by simpa using hj)).2.1 := fun j hj => by
      rw [hset j hj]
      split
      · rename_i e; subst e; rfl
      · rfl
    refine ⟨by rw [List.length_set, Lv.setR_length]; exact hl, fun j a b => ?_, fun i j hi hj hne g hgi hgj => ?_⟩
    · have ha : j < vals.length := by simpa using a
      obtain ⟨r1, r2, r3⟩ := h.each.each j ha (by omega)
      have q2 : OwnA (w.setCell ⟨G, p * 3 + 2, none⟩ vf) B vals[j].2.1 (L[j]'(by omega)).arcs := r2.keep fun k hk => by
        obtain ⟨c, fz, hc⟩ := r2.kind k hk
        exact far k (kinds_neY hc hG (by decide))
      have q3 : OwnZ (w.setCell ⟨G, p * 3 + 2, none⟩ vf) B vals[j].2.2 (L[j]'(by omega)).free := ownsRow_keep r3 fun k hk => by
        obtain ⟨_, hkl, c, fz, hc⟩ := r3.kind k hk
        exact far k (kinds_neY hc hG (by decide))
      rw [hset j a, hadd j b]
      by_cases e : p = j
      · subst e
        rw [if_pos rfl, if_pos rfl]
        exact ⟨r1, q2, hz2⟩
      · rw [if_neg e, if_neg e]
        exact ⟨r1, q2, q3⟩
    · have hi' : i < vals.length := by simpa using hi
      have hj' : j < vals.length := by simpa using hj
      rw [hboth i hi] at hgi
      rw [hboth j hj] at hgj
      exact h.each.apart i j hi' hj' hne g hgi hgj
theorem LoO.alloc {w : World} {B : Nat} {v : Value} {vals : List LoV} {L : List Au.Lo} (h : LoO w B v vals L) (o : Obj) : LoO (w.alloc o) B v vals L := h.keep fun _ hk => Go.Deep.blk_alloc_lt _ _ _ hk
/-- .. by a list that is new. -/
theorem LoO.free_new {w : World} {B G l cap p : Nat} {vals : List LoV} {L : List Au.Lo} (h : LoO w B (.slice (some ⟨G, 0, none⟩) l cap) vals L) (hl : l = L.length) (hB : B ≤ w.heap.size) (hpv : p < vals.length) (zs : List Int) (hz : zs.length ≤ 1000) :
    LoO ((w.alloc (.cells (zs.map (Value.int .i64)).toArray 3)).setCell ⟨G, p * 3 + 2, none⟩ (.slice (some ⟨w.heap.size, 0, none⟩) zs.length zs.length)) B (.slice (some ⟨G, 0, none⟩) l cap) (vals.set p (vals[p].1, vals[p].2.1, .slice (some ⟨w.heap.size, 0, none⟩) zs.length zs.length)) (Lv.setR L p zs) := by
  subst hl
  exact (h.alloc _).free hpv (ownZ_lit w zs hB hz)
end Go.Proofs.YthhfmcikfdagiaaDoor

/-
  Where a state stands, the program's closure.
-/
namespace Go.Proofs.YthhfmcikfdagiaaDoor
open Go.RowKit
theorem Lv.pl_int (n row k : Nat) : (Lv.pl n row k : Int) = (row : Int) * ((n : Int) + 1) + (k : Int) := by
  unfold Lv.pl
  simp
set_option maxRecDepth 100000 in
set_option maxHeartbeats 4000000 in
theorem place_any (w : World) (B : Addr) (a : Option Addr) (cap n r k : Nat) (hb : w.cell? B = some (.slice a n cap)) (hr : r ≤ 6) (hn : n ≤ 100) (hk : k ≤ 100) :
    Calls Tryd.prog 23 #[.int .i64 (r : Int), .int .i64 (k : Int), .pointer (some B)] w fun e w' => e = .returned (.int .i64 (Lv.pl n r k : Int)) ∧ w = w' := by
  have hm : (r : Int) * ((n : Int) + 1) ≤ 700 ∧ 0 ≤ (r : Int) * ((n : Int) + 1) := by
    have := Nat.mul_le_mul hr (show n + 1 ≤ 101 by omega)
    have e : ((r * (n + 1) : Nat) : Int) = (r : Int) * ((n : Int) + 1) := by simp
    omega
  rw [Lv.pl_int]
  go_enter Tryd.func23, Tryd.ntmps23
  go_wp2_with fail
  go_ret
  exact ⟨rfl, rfl⟩
end Go.Proofs.YthhfmcikfdagiaaDoor

/-
  A word's loose states, the program's call: characters and edits led between states of the call's own.
-/
namespace Go.Proofs.YthhfmcikfdagiaaDoor
open Go.RowKit

namespace Lv
theorem pl_bound {n R row k : Nat} (h : row < R) (hk : k ≤ n) : pl n row k < R * (n + 1) := pl_lt h hk
theorem in1_succ (cs : List Int) (L : List Au.Lo) (r k : Nat) : in1 cs L r (k + 1) = Sp.lead (in1 cs L r k) (pl cs.length (2 * r) k) (pl cs.length (2 * r) (k + 1)) (Sp.rows (cs.getD k 0) (cs.getD k 0)) := rfl
end Lv
theorem LoO.block_ne {w : World} {B G g : Nat} {n cap : Nat} {vals : List LoV} {L : List Au.Lo} (h : LoO w B (.slice (some ⟨G, 0, none⟩) n cap) vals L) {c : Array Value} {t : TypeId} {fz : Nat × Nat} (hg : w.heap[g]? = some (Obj.cells c t fz)) (ht : t ≠ 58) : g ≠ G := by
  obtain ⟨_, _, c', fz', hc⟩ := h.kind G rfl
  exact kinds_neY hg hc ht

set_option maxRecDepth 100000 in
set_option maxHeartbeats 4000000 in
theorem looseOf_any (w : World) (v : Value) (cs : List Int) (hv : IntS w v cs) (hn : cs.length ≤ 16) (K x : Nat) (hK : K ≤ 2) (hx : x ≤ cs.length) :
    Calls Tryd.prog 12 #[v, .int .i64 (K : Int), .int .i64 (x : Int)] w fun e w' => ∃ v' vals, e = .returned v' ∧ LoO w' w.heap.size v' vals (Lv.auto cs K x) ∧ Below w.heap.size w w' := by
  obtain ⟨a, cap, rfl, _, _, hv⟩ := hv
  have HV : Hid (0 < cs.length → ∃ g o, a = some ⟨g, o, none⟩ ∧ g < w.heap.size ∧ ∀ j, j < cs.length → w.cell? ⟨g, o + j, none⟩ = some (.int .i64 (cs.getD j 0))) := fun h => by
    obtain ⟨g, o, h1, h2, h3⟩ := hv h
    exact ⟨g, o, h1, h2, fun j hj => by rw [Lv.getD_eq hj]; exact h3 j hj⟩
  have HB1 := Lib.hid (fun r k (hr : r ≤ K) (hk : k ≤ cs.length) => Lv.bd_row1 (cs := cs) (K := K) hn hK hr hk)
  have HB2 := Lib.hid (fun r k (hr : r < K) (hk : x + k ≤ cs.length + 1) => Lv.bd_row2 (cs := cs) (K := K) (x := x) hn hx hK hr hk)
  have HBA := Lib.hid (Lv.bd_all (cs := cs) (K := K) (x := x) hn hx hK)
  have HPL := Lib.hid (fun row k (h : row < 2 * K + 1) (hk : k ≤ cs.length) => Lv.pl_bound h hk)
  obtain ⟨m, hm⟩ : ∃ m, m = (2 * K + 1) * (cs.length + 1) := ⟨_, rfl⟩
  have hm85 := (Lv.m_le hK hn).1
  have HM0 : Hid (Lv.pl cs.length (2 * K + 1) 0 = m) := by show _ = _; rw [hm]; rfl
  have HAU : Hid (Lv.auto cs K x = Wl.setF (Lv.out2 cs.length x (Lv.out1 cs m (K + 1)) K) (Lv.pl cs.length (2 * K) cs.length)) := by show _ = _; rw [hm]; rfl
  have HS1 := Lib.hid (fun L r k => Lv.in1_succ cs L r k)
  rw [← hm] at HB1 HB2 HBA HPL hm85
  clear hv hm
  obtain ⟨n, hnl⟩ : ∃ n, n = cs.length := ⟨_, rfl⟩
  have HN := Lib.hid hnl
  rw [← hnl] at HV HB1 HB2 HBA HPL HM0 HAU HS1 hn hx ⊢
  clear hnl
  have HP : Hid (∀ (W : World) (R k : Int) (r' k' : Nat), W.cell? ⟨w.heap.size, 0, none⟩ = some (.slice a n cap) → R = (r' : Int) → k = (k' : Int) → r' ≤ 6 → k' ≤ 100 → Calls Tryd.prog 23 #[.int .i64 R, .int .i64 k, .pointer (some ⟨w.heap.size, 0, none⟩)] W fun e w' => e = .returned (.int .i64 (Lv.pl n r' k' : Nat)) ∧ W = w') := fun W R k r' k' hb e1 e2 h1 h2 => by
    subst e1 e2
    exact place_any W _ a cap n r' k' hb h1 (by omega) h2
  have HW1 : Hid (Below w.heap.size w (w.alloc (.cells #[.slice a n cap] 22))) := (Below.refl _ _).alloc (Nat.le_refl _) _
  have HX1 : Hid ((w.alloc (.cells #[.slice a n cap] 22)).heap[w.heap.size]? = some (.cells #[.slice a n cap] 22 (0, 0))) := Go.Deep.blk_alloc_new _ _
  have HXC : Hid (∀ W : World, W.heap[w.heap.size]? = some (.cells #[.slice a n cap] 22 (0, 0)) → W.cell? ⟨w.heap.size, 0, none⟩ = some (.slice a n cap)) := fun W e => by simp [World.cell?, e]
  have HXL : Hid (w.heap.size < (w.alloc (.cells #[.slice a n cap] 22)).heap.size) := by show _ < _; simp
  go_enter Tryd.func12, Tryd.ntmps12
  go_wp2_with fail
  generalize w.alloc (.cells #[.slice a n cap] 22) = w1 at *
  refine (HP.out w1 _ _ (2 * K + 1) 0 (HXC.out w1 HX1.out) (by simp) (by simp) (by omega) (by omega)).mono ?_
  rintro e w2 ⟨rfl, rfl⟩
  rw [HM0.out]
  have hmk0 := fun w => makeLo m (by omega) w
  have HO0 := Lib.hid ((blank_new w1 m (by omega)).base HW1.out.size)
  have HB0 : Hid (Below w.heap.size w (w1.alloc (.cells (madeCells #[.bool false, .slice none 0 0, .slice none 0 0] (m * 3)) 58))) := HW1.out.alloc HW1.out.size _
  have HX2 : Hid ((w1.alloc (.cells (madeCells #[.bool false, .slice none 0 0, .slice none 0 0] (m * 3)) 58)).heap[w.heap.size]? = some (.cells #[.slice a n cap] 22 (0, 0))) := (Go.Deep.blk_alloc_lt _ _ _ HXL.out).trans HX1.out
  go_wp2_with fail
  clear hmk0
  generalize w1.alloc (.cells (madeCells #[.bool false, .slice none 0 0, .slice none 0 0] (m * 3)) 58) = w2 at *
  generalize List.replicate m ((false, .slice none 0 0, .slice none 0 0) : LoV) = vals0 at *
  clear HW1 HX1 HXL
  go_loopg [9, 10] (K + 1) (fun g s9 s10 wx => ∃ (r : Nat) (vv : Value) (vals : List LoV), r ≤ K + 1 ∧ g = K + 1 - r ∧ vv = s9 ∧ s10 = .int .i64 (2 * (r : Int)) ∧ Hid (LoO wx w.heap.size vv vals (Lv.out1 cs m r)) ∧ Hid (Below w.heap.size w wx) ∧ Hid (wx.heap[w.heap.size]? = some (.cells #[.slice a n cap] 22 (0, 0))))
  case atStart => exact ⟨0, _, vals0, Nat.zero_le _, rfl, rfl, rfl, HO0, HB0, HX2⟩
  case round =>
    clear HO0 HB0 HX2
    obtain ⟨r, vv, vals, hr, rfl, rfl, rfl, hO, hbel, hbx⟩ := hrel
    have c0 := HXC.out wr hbx.out
    by_cases hrK : r ≤ K
    · have i1 : 2 * (r : Int) ≤ 2 * (K : Int) := by omega
      go_wp2_with fail
      clear c0
      have HO1 : Hid (LoO wr w.heap.size vv vals (Lv.in1 cs (Lv.out1 cs m r) r 0)) := hO
      go_loopg [9, 32] n (fun g s9 s32 wx => ∃ (k : Nat) (vv : Value) (vals : List LoV), k ≤ n ∧ g = n - k ∧ vv = s9 ∧ s32 = .int .i64 (k : Int) ∧ Hid (LoO wx w.heap.size vv vals (Lv.in1 cs (Lv.out1 cs m r) r k)) ∧ Hid (Below w.heap.size w wx) ∧ Hid (wx.heap[w.heap.size]? = some (.cells #[.slice a n cap] 22 (0, 0))))
      case atStart => exact ⟨0, _, vals, Nat.zero_le _, rfl, rfl, rfl, HO1, hbel, hbx⟩
      case round =>
        clear hO HO1 hbel hbx
        obtain ⟨k, vv, vals, hk, rfl, rfl, rfl, hO, hbel, hbx⟩ := hrel
        by_cases hkn : k < n
        · have i2 : (k : Int) < (n : Int) := by omega
          obtain ⟨g, o, rfl, hg, hcu⟩ := HV.out (by omega)
          have c1 : wr.cell? ⟨g, o + k, none⟩ = some (.int .i64 (cs.getD k 0)) := (hbel.out.cell (p := ⟨g, o + k, none⟩) hg).trans (hcu k hkn)
          have HBD := Lib.hid (HB1.out r k hrK hk)
          have HSU := Lib.hid (HS1.out (Lv.out1 cs m r) r k)
          have q1 := HPL.out (2 * r) k (by omega) hk
          have q2 := HPL.out (2 * r) (k + 1) (by omega) (by omega)
          have H1 := Lib.hid (HP.out wr (2 * (r : Int)) (k : Int) (2 * r) k (HXC.out wr hbx.out) (by simp) rfl (by omega) (by omega))
          have H2 := Lib.hid (HP.out wr (2 * (r : Int)) ((k : Int) + 1) (2 * r) (k + 1) (HXC.out wr hbx.out) (by simp) (by simp) (by omega) (by omega))
          clear hcu
          generalize Lv.pl n (2 * r) k = p at *
          generalize Lv.pl n (2 * r) (k + 1) = q at *
          generalize cs.getD k 0 = c at *
          go_wp2_with fail
          refine H1.out.mono ?_
          rintro e w3 ⟨rfl, rfl⟩
          go_wp2_with fail
          refine H2.out.mono ?_
          rintro e w3 ⟨rfl, rfl⟩
          have hb := HBD.out
          have HL := Lib.hid (lead_any (fun _ => True) wr vv _ (hO.out.los _ fun _ _ => trivial) (by have := hb.len; omega) (fun s hs => ⟨by have := (hb.each s hs).1; omega, by have := (hb.each s hs).2; omega⟩) p q c c (by have := hb.low; omega) (by have := hb.low; omega))
          rw [← HSU.out] at HL
          clear hb
          go_wp2_with fail
          refine HL.out.mono ?_
          rintro e w3 ⟨v3, vals3, rfl, hO3, hb3⟩
          have HO3 : Hid (LoO w3 w.heap.size v3 vals3 (Lv.in1 cs (Lv.out1 cs m r) r (k + 1))) := hO3.base hbel.out.size
          have HB3 : Hid (Below w.heap.size w w3) := hbel.out.trans (hb3.mono hbel.out.size)
          have HX3 : Hid (w3.heap[w.heap.size]? = some (.cells #[.slice (some ⟨g, o, none⟩) n cap] 22 (0, 0))) := (hb3.block _ (Array.getElem?_eq_some_iff.1 hbx.out).1).trans hbx.out
          clear hO3 hb3
          go_wp2_with fail
          go_roundg (n - (k + 1))
          case rel => exact ⟨k + 1, _, vals3, by omega, rfl, rfl, by go_num, HO3, HB3, HX3⟩
          case measure => omega
        · obtain rfl : k = n := by omega
          have i2 : ¬ (k : Int) < (k : Int) := by omega
          have HO1 : Hid (LoO wr w.heap.size vv vals (Lv.out1 cs m (r + 1))) := by
            have := hO.out
            rw [HN.out] at this
            exact this
          go_wp2_with fail
          go_roundg (K + 1 - (r + 1))
          case rel => exact ⟨r + 1, _, vals, by omega, rfl, rfl, by go_num, HO1, hbel, hbx⟩
          case measure => omega
    · obtain rfl : r = K + 1 := by omega
      have i1 : ¬ 2 * ((K + 1 : Nat) : Int) ≤ 2 * (K : Int) := by omega
      have HO1 : Hid (LoO wr w.heap.size vv vals (Lv.out2 n x (Lv.out1 cs m (K + 1)) 0)) := hO
      clear hO c0
      go_wp2_with fail
      go_loopg [9, 13] K (fun g s9 s13 wx => ∃ (r : Nat) (vv : Value) (vals : List LoV), r ≤ K ∧ g = K - r ∧ vv = s9 ∧ s13 = .int .i64 (2 * (r : Int)) ∧ Hid (LoO wx w.heap.size vv vals (Lv.out2 n x (Lv.out1 cs m (K + 1)) r)) ∧ Hid (Below w.heap.size w wx) ∧ Hid (wx.heap[w.heap.size]? = some (.cells #[.slice a n cap] 22 (0, 0))))
      case atStart => exact ⟨0, _, vals, Nat.zero_le _, rfl, rfl, rfl, HO1, hbel, hbx⟩
      case round =>
        clear HO1 hbel hbx i1 hr
        obtain ⟨r, vv, vals, hr, rfl, rfl, rfl, hO, hbel, hbx⟩ := hrel
        by_cases hrK : r < K
        · have i1 : 2 * (r : Int) < 2 * (K : Int) := by omega
          have HO1 : Hid (LoO wr w.heap.size vv vals (Lv.in2 n x (Lv.out2 n x (Lv.out1 cs m (K + 1)) r) r 0)) := hO
          clear hO
          go_wp2_with fail
          go_loopg [9, 14] (n + 1 - x) (fun g s9 s14 wx => ∃ (k j : Nat) (vv : Value) (vals : List LoV), j = x + k ∧ j ≤ n + 1 ∧ g = n + 1 - j ∧ vv = s9 ∧ s14 = .int .i64 (j : Int) ∧ Hid (LoO wx w.heap.size vv vals (Lv.in2 n x (Lv.out2 n x (Lv.out1 cs m (K + 1)) r) r k)) ∧ Hid (Below w.heap.size w wx) ∧ Hid (wx.heap[w.heap.size]? = some (.cells #[.slice a n cap] 22 (0, 0))))
          case atStart => exact ⟨0, x, _, vals, rfl, by omega, rfl, rfl, rfl, HO1, hbel, hbx⟩
          case round =>
            clear HO1 hbel hbx
            obtain ⟨k, j, vv, vals, hj, hjn, rfl, rfl, rfl, hO, hbel, hbx⟩ := hrel
            have c0 := HXC.out wr hbx.out
            by_cases hkn : j ≤ n
            · have i2 : (j : Int) ≤ (n : Int) := by omega
              have HBD := Lib.hid (HB2.out r k hrK (by omega))
              have HSU : Hid (Lv.in2 n x (Lv.out2 n x (Lv.out1 cs m (K + 1)) r) r (k + 1) = Lv.setR (Lv.setR (Sp.lead (Lv.in2 n x (Lv.out2 n x (Lv.out1 cs m (K + 1)) r) r k) (Lv.pl n (2 * r) j) (Lv.pl n (2 * r + 1) j) (Sp.rows 0 1114111)) (Lv.pl n (2 * r) j) [(Lv.pl n (2 * r + 1) j : Int)]) (Lv.pl n (2 * r + 1) j) [(Lv.pl n (2 * r + 2) j : Int), (Lv.pl n (2 * r + 2) (min (j + 1) n) : Int)]) := by
                show _ = _
                rw [hj]
                rfl
              obtain ⟨M, hM⟩ : ∃ M, M = min (j + 1) n := ⟨_, rfl⟩
              rw [← hM] at HSU
              have hMn : M ≤ n := by omega
              have hmin : min ((j : Int) + 1) (n : Int) = (M : Int) := by omega
              have q1 := HPL.out (2 * r) j (by omega) hkn
              have q2 := HPL.out (2 * r + 1) j (by omega) hkn
              have q3 := HPL.out (2 * r + 2) j (by omega) hkn
              have q4 := HPL.out (2 * r + 2) M (by omega) hMn
              have H1 := Lib.hid (HP.out wr (2 * (r : Int)) (j : Int) (2 * r) j c0 (by simp) rfl (by omega) (by omega))
              have H2 := Lib.hid (HP.out wr (2 * (r : Int) + 1) (j : Int) (2 * r + 1) j c0 (by simp) rfl (by omega) (by omega))
              have H3 : Hid (∀ W : World, W.cell? ⟨w.heap.size, 0, none⟩ = some (.slice a n cap) → Calls Tryd.prog 23 #[.int .i64 (2 * (r : Int) + 2), .int .i64 (j : Int), .pointer (some ⟨w.heap.size, 0, none⟩)] W fun e w' => e = .returned (.int .i64 (Lv.pl n (2 * r + 2) j : Nat)) ∧ W = w') := fun W h => HP.out W _ _ (2 * r + 2) j h (by simp) rfl (by omega) (by omega)
              have H4 : Hid (∀ W : World, W.cell? ⟨w.heap.size, 0, none⟩ = some (.slice a n cap) → Calls Tryd.prog 23 #[.int .i64 (2 * (r : Int) + 2), .int .i64 (M : Int), .pointer (some ⟨w.heap.size, 0, none⟩)] W fun e w' => e = .returned (.int .i64 (Lv.pl n (2 * r + 2) M : Nat)) ∧ W = w') := fun W h => HP.out W _ _ (2 * r + 2) M h (by simp) rfl (by omega) (by omega)
              have HJ := Lib.hid hj
              clear hM hj
              generalize Lv.pl n (2 * r) j = p at *
              generalize Lv.pl n (2 * r + 1) j = q at *
              generalize Lv.pl n (2 * r + 2) j = s at *
              generalize Lv.pl n (2 * r + 2) M = t at *
              go_wp2_with fail
              refine H1.out.mono ?_
              rintro e w3 ⟨rfl, rfl⟩
              go_wp2_with fail
              refine H2.out.mono ?_
              rintro e w3 ⟨rfl, rfl⟩
              have hb := HBD.out
              have HL := Lib.hid (lead_any (fun _ => True) wr vv _ (hO.out.los _ fun _ _ => trivial) (by have := hb.len; omega) (fun s hs => ⟨by have := (hb.each s hs).1; omega, by have := (hb.each s hs).2; omega⟩) p q 0 1114111 (by have := hb.low; omega) (by have := hb.low; omega))
              have HLB := Lib.hid (Lv.Bd.lead (q := q) q1 (Sp.rows 0 1114111) hb)
              clear hb
              generalize Sp.lead (Lv.in2 n x (Lv.out2 n x (Lv.out1 cs m (K + 1)) r) r k) p q (Sp.rows 0 1114111) = L3 at *
              go_wp2_with fail
              refine HL.out.mono ?_
              rintro e w3 ⟨v3, vals3, rfl, hO3, hb3⟩
              have HO3 : Hid (LoO w3 w.heap.size v3 vals3 L3) := hO3.base hbel.out.size
              have HB3 : Hid (Below w.heap.size w w3) := hbel.out.trans (hb3.mono hbel.out.size)
              have HX3 : Hid (w3.heap[w.heap.size]? = some (.cells #[.slice a n cap] 22 (0, 0))) := (hb3.block _ (Array.getElem?_eq_some_iff.1 hbx.out).1).trans hbx.out
              have hl3 := HLB.out.low
              clear hO3 hb3 c0
              obtain ⟨l3, hl3e⟩ : ∃ l3, l3 = L3.length := ⟨_, rfl⟩
              obtain ⟨G, cp, rfl, _, _, hGB, hGl, hGk, hfz, hcl⟩ := HO3.out.form (by omega)
              have hvl := HO3.out.each.len
              have HL3 := Lib.hid hl3e
              rw [← hl3e] at HO3 hl3 hvl ⊢
              clear hl3e
              -- the first one is said anew
              have hpv : p < vals3.length := by omega
              have hqv : q < vals3.length := by omega
              obtain ⟨_, _, d1⟩ := hcl p hpv
              have hBw := HB3.out.size
              have HO4 := Lib.hid (HO3.out.free_new HL3.out hBw hpv [(q : Int)] (by simp))
              have y1 : (w3.alloc (.cells #[.int .i64 (q : Int)] 3)).cell? ⟨G, p * 3 + 2, none⟩ = some vals3[p].2.2 := (World.cell?_of_block (w := w3) (a := ⟨G, p * 3 + 2, none⟩) (Go.Deep.blk_alloc_lt _ _ _ hGl)).trans d1
              have y2 : (w3.alloc (.cells #[.int .i64 (q : Int)] 3)).frozen? ⟨G, p * 3 + 2, none⟩ = false := (World.frozen?_of_block (w := w3) (a := ⟨G, p * 3 + 2, none⟩) (Go.Deep.blk_alloc_lt _ _ _ hGl)).trans (hfz _)
              have i5 : (p : Int) < (l3 : Int) := by omega
              have i6 : (q : Int) < (l3 : Int) := by omega
              have HGn : Hid (w.heap.size ≠ G) := HO3.out.block_ne HX3.out (by decide)
              have HB4 : Hid (Below w.heap.size w ((w3.alloc (.cells #[.int .i64 (q : Int)] 3)).setCell ⟨G, p * 3 + 2, none⟩ (.slice (some ⟨w3.heap.size, 0, none⟩) 1 1))) := (HB3.out.alloc hBw _).setCell (p := ⟨G, p * 3 + 2, none⟩) hGB _
              have HX4 : Hid (((w3.alloc (.cells #[.int .i64 (q : Int)] 3)).setCell ⟨G, p * 3 + 2, none⟩ (.slice (some ⟨w3.heap.size, 0, none⟩) 1 1)).heap[w.heap.size]? = some (.cells #[.slice a n cap] 22 (0, 0))) := by
                rw [Hid, Go.Deep.blk_setCell_other _ _ _ _ HGn.out, Go.Deep.blk_alloc_lt _ _ _ (Array.getElem?_eq_some_iff.1 HX3.out).1]
                exact HX3.out
              rw [World.setCell_alloc_past _ _ _ _ hGl] at HO4 HB4 HX4
              generalize vals3.set p _ = vals4 at HO4
              clear d1 hcl hfz
              go_wp2_with fail
              have HO5 : Hid (LoO ((w3.setCell ⟨G, p * 3 + 2, none⟩ (.slice (some ⟨w3.heap.size, 0, none⟩) 1 1)).alloc (.cells #[.int .i64 (q : Int)] 3)) w.heap.size (.slice (some ⟨G, 0, none⟩) l3 cp) vals4 (Lv.setR L3 p [(q : Int)])) := HO4.out
              clear HO4 y1 y2
              generalize (w3.setCell ⟨G, p * 3 + 2, none⟩ (.slice (some ⟨w3.heap.size, 0, none⟩) 1 1)).alloc (.cells #[.int .i64 (q : Int)] 3) = w4 at *
              have HL4 : Hid (l3 = (Lv.setR L3 p [(q : Int)]).length) := by show _ = _; rw [Lv.setR_length]; exact HL3.out
              have hvl4 := HO5.out.each.len
              rw [← HL4.out] at hvl4
              obtain ⟨G', cp', e0, _, _, _, hGl4, _, hfz4, hcl4⟩ := HO5.out.form (by rw [← HL4.out]; omega)
              obtain ⟨rfl, rfl⟩ : G = G' ∧ cp = cp' := by
                injection e0 with e1 e2 e3
                injection e1 with e1
                injection e1 with e1
                exact ⟨e1, e3⟩
              clear e0
              have hqv4 : q < vals4.length := by omega
              obtain ⟨_, _, d4⟩ := hcl4 q hqv4
              have hBw4 := HB4.out.size
              have HO6 := Lib.hid (HO5.out.free_new HL4.out hBw4 hqv4 [(s : Int), (t : Int)] (by simp))
              rw [World.setCell_alloc_past _ _ _ _ hGl4] at HO6
              generalize hvv : vals4.set q _ = vals5 at HO6
              have HO7 : Hid (LoO ((w4.setCell ⟨G, q * 3 + 2, none⟩ (.slice (some ⟨w4.heap.size, 0, none⟩) 2 2)).alloc (.cells #[.int .i64 (s : Int), .int .i64 (t : Int)] 3)).drew w.heap.size (.slice (some ⟨G, 0, none⟩) l3 cp) vals5 (Lv.in2 n x (Lv.out2 n x (Lv.out1 cs m (K + 1)) r) r (k + 1))) := by
                rw [HSU.out]
                exact HO6.out.keep fun _ _ => rfl
              have HB7 : Hid (Below w.heap.size w ((w4.setCell ⟨G, q * 3 + 2, none⟩ (.slice (some ⟨w4.heap.size, 0, none⟩) 2 2)).alloc (.cells #[.int .i64 (s : Int), .int .i64 (t : Int)] 3)).drew) := (((HB4.out.setCell (p := ⟨G, q * 3 + 2, none⟩) hGB _).alloc (by simpa using hBw4) _)).drew
              have HX7 : Hid ((((w4.setCell ⟨G, q * 3 + 2, none⟩ (.slice (some ⟨w4.heap.size, 0, none⟩) 2 2)).alloc (.cells #[.int .i64 (s : Int), .int .i64 (t : Int)] 3)).drew).heap[w.heap.size]? = some (.cells #[.slice a n cap] 22 (0, 0))) := by
                have hlt := (Array.getElem?_eq_some_iff.1 HX4.out).1
                refine (Go.Deep.blk_alloc_lt _ _ _ (by simpa using hlt)).trans ?_
                rw [Go.Deep.blk_setCell_other _ _ _ _ HGn.out]
                exact HX4.out
              clear hvv HO6
              have hk0 : w4.drew.cell? ⟨w.heap.size, 0, none⟩ = some (.slice a n cap) := HXC.out _ HX4.out
              have hk1 : (w4.alloc (.cells #[.int .i64 (s : Int), .int .i64 (t : Int)] 3)).drew.cell? ⟨w.heap.size, 0, none⟩ = some (.slice a n cap) := HXC.out _ ((Go.Deep.blk_alloc_lt w4 _ _ (Array.getElem?_eq_some_iff.1 HX4.out).1).trans HX4.out)
              have hk2 := HXC.out _ HX7.out
              have z3 : ((w4.alloc (.cells #[.int .i64 (s : Int), .int .i64 (t : Int)] 3)).drew).cell? ⟨G, q * 3 + 2, none⟩ = some vals4[q].2.2 := (World.cell?_of_block (w := w4) (a := ⟨G, q * 3 + 2, none⟩) (Go.Deep.blk_alloc_lt w4 _ _ hGl4)).trans d4
              have z4 : ((w4.alloc (.cells #[.int .i64 (s : Int), .int .i64 (t : Int)] 3)).drew).frozen? ⟨G, q * 3 + 2, none⟩ = false := (World.frozen?_of_block (w := w4) (a := ⟨G, q * 3 + 2, none⟩) (Go.Deep.blk_alloc_lt w4 _ _ hGl4)).trans (hfz4 _)
              have e1 : IntKind.i64.wrap (2 * (r : Int) + 2) = 2 * (r : Int) + 2 := IntWalk.i64_in _ (by omega)
              have e2 : IntKind.i64.wrap ((j : Int) + 1) = (j : Int) + 1 := IntWalk.i64_in _ (by omega)
              clear hcl4 hfz4
              go_region_held3 (fun W => W.cell? ⟨w.heap.size, 0, none⟩ = some (.slice a n cap)) (first | exact hk0 | exact hk1 | exact hk2) (first | (go_at_call_of 23 (Value.int IntKind.i64 (j : Int)); refine (H3.out _ hk0).mono ?_; rintro e wx ⟨rfl, rfl⟩) | (go_at_call_of 23 (Value.int IntKind.i64 (M : Int)); refine (H4.out _ hk0).mono ?_; rintro e wx ⟨rfl, rfl⟩))
              all_goals
                clear hk0 hk1 hk2 z3 z4 d4
                generalize ((w4.setCell ⟨G, q * 3 + 2, none⟩ (.slice (some ⟨w4.heap.size, 0, none⟩) 2 2)).alloc (.cells #[.int .i64 (s : Int), .int .i64 (t : Int)] 3)).drew = w7 at *
                try go_wp2_with fail
                go_roundg (n + 1 - (j + 1))
                case rel => exact ⟨k + 1, j + 1, _, vals5, by have := HJ.out; omega, by omega, rfl, rfl, by go_num, HO7, HB7, HX7⟩
                case measure => omega
            · obtain rfl : j = n + 1 := by omega
              have i2 : ¬ ((n + 1 : Nat) : Int) ≤ (n : Int) := by omega
              have HO1 : Hid (LoO wr w.heap.size vv vals (Lv.out2 n x (Lv.out1 cs m (K + 1)) (r + 1))) := by
                have h2 := hO.out
                rw [show k = n + 1 - x by omega] at h2
                exact h2
              clear hO
              go_wp2_with fail
              go_roundg (K - (r + 1))
              case rel => exact ⟨r + 1, _, vals, by omega, rfl, rfl, by go_num, HO1, hbel, hbx⟩
              case measure => omega
        · obtain rfl : r = K := by omega
          have i1 : ¬ 2 * (r : Int) < 2 * (r : Int) := by omega
          have c0 := HXC.out wr hbx.out
          have hb := HBA.out
          have H1 := Lib.hid (HP.out wr (2 * (r : Int)) (n : Int) (2 * r) n c0 (by simp) rfl (by omega) (by omega))
          have q1 := HPL.out (2 * r) n (by omega) (Nat.le_refl _)
          generalize Lv.pl n (2 * r) n = p at *
          generalize Lv.out2 n x (Lv.out1 cs m (r + 1)) r = L at *
          have hl3 := hb.low
          obtain ⟨l3, hl3e⟩ : ∃ l3, l3 = L.length := ⟨_, rfl⟩
          obtain ⟨G, cp, rfl, _, _, hGB, hGl, hGk, hfz, hcl⟩ := hO.out.form (by omega)
          have hvl := hO.out.each.len
          have hpv : p < vals.length := by omega
          obtain ⟨d1, _, _⟩ := hcl p hpv
          have f1 := hfz (p * 3)
          have HOF := Lib.hid (hO.out.fin (p := p) hpv)
          have HB8 : Hid (Below w.heap.size w (wr.setCell ⟨G, p * 3, none⟩ (.bool true))) := hbel.out.setCell (p := ⟨G, p * 3, none⟩) hGB _
          rw [← HAU.out] at HOF
          rw [← hl3e] at hl3 HOF ⊢
          have i6 : (p : Int) < (l3 : Int) := by omega
          generalize vals[p] = old at *
          clear hl3e hcl hfz hb
          go_wp2_with fail
          refine H1.out.mono ?_
          rintro e w3 ⟨rfl, rfl⟩
          go_wp2_with fail
          go_ret
          exact ⟨_, _, rfl, HOF.out, HB8.out⟩
end Go.Proofs.YthhfmcikfdagiaaDoor

/-
  Distance, the program's: one row of distances, gone over element by element.
-/
namespace Go.Proofs.YthhfmcikfdagiaaDoor
open Go.RowKit

namespace Lv
/-- The distance of two beginnings. -/
def dp (xs ys : List Int) (i k : Nat) : Nat := dist (xs.take i) (ys.take k)
theorem dp_left (xs ys : List Int) {k : Nat} (h : k ≤ ys.length) : dp xs ys 0 k = k := by
  unfold dp
  rw [List.take_zero, dist_nil, List.length_take]
  omega
theorem dp_right (xs ys : List Int) {i : Nat} (h : i ≤ xs.length) : dp xs ys i 0 = i := by
  unfold dp
  rw [List.take_zero, dist_nil', List.length_take]
  omega
theorem dp_step (xs ys : List Int) {i k : Nat} (hi : i < xs.length) (hk : k < ys.length) : dp xs ys (i + 1) (k + 1) = min (dp xs ys i k + if xs[i] = ys[k] then 0 else 1) (min (dp xs ys i (k + 1) + 1) (dp xs ys (i + 1) k + 1)) := by
  unfold dp
  rw [List.take_succ_eq_append_getElem hi, List.take_succ_eq_append_getElem hk]
  exact dist_snoc _ _ _ _
theorem dp_le (xs ys : List Int) (i k : Nat) : dp xs ys i k ≤ max xs.length ys.length := by
  have := dist_max (xs.take i) (ys.take k)
  rw [List.length_take, List.length_take] at this
  unfold dp
  omega
theorem dp_full (xs ys : List Int) : dp xs ys xs.length ys.length = dist xs ys := by
  unfold dp
  rw [List.take_length, List.take_length]
end Lv

set_option maxRecDepth 100000 in
set_option maxHeartbeats 4000000 in
theorem distP_any (w : World) (u v : Value) (xs ys : List Int) (hu : IntS w u xs) (hv : IntS w v ys) (hx : xs.length ≤ 1000000) (hy : ys.length ≤ 1000000) :
    Calls Tryd.prog 6 #[u, v] w fun e w' => e = .returned (.int .i64 (Lv.dist xs ys : Nat)) ∧ Below w.heap.size w w' := by
  obtain ⟨a, ca, rfl, _, _, hu⟩ := hu
  obtain ⟨b, cb, rfl, _, _, hv⟩ := hv
  have HU := Lib.hid hu
  have HV := Lib.hid hv
  have HDL := Lib.hid (fun k h => Lv.dp_left xs ys (k := k) h)
  have HDR := Lib.hid (fun i h => Lv.dp_right xs ys (i := i) h)
  have HDS := Lib.hid (fun i k hi hk => Lv.dp_step xs ys (i := i) (k := k) hi hk)
  have HLE : Hid (∀ i k, Lv.dp xs ys i k ≤ 1000000) := fun i k => by have := Lv.dp_le xs ys i k; omega
  have HDF := Lib.hid (Lv.dp_full xs ys)
  obtain ⟨n, hn⟩ : ∃ n, n = xs.length := ⟨_, rfl⟩
  obtain ⟨m, hm⟩ : ∃ m, m = ys.length := ⟨_, rfl⟩
  have HN := Lib.hid hn
  have HM := Lib.hid hm
  rw [← hn] at hx ⊢
  rw [← hm] at hy ⊢
  clear hu hv hn hm
  have hmk0 := run_make_row' (P := Tryd.prog) 22 3 (.int .i64 0) 8 Tryd.underlying22 Tryd.infoI rfl .i64 .i64 (m + 1) (by omega) (by omega)
  have hmk : ∀ w, (Instr.makeSlice 22 (.int .i64 ((m : Int) + 1)) (.int .i64 ((m : Int) + 1))).run Tryd.prog w = .ok (.slice (some ⟨w.heap.size, 0, none⟩) (m + 1) (m + 1)) (w.alloc (.cells (madeCells #[.int .i64 0] (m + 1)) 3)) := hmk0
  have HR0 : Hid ((w.alloc (.cells (madeCells #[.int .i64 0] (m + 1)) 3)).rowIs w.heap.size 3 (m + 1) (fun j => if j < 0 then .int .i64 (j : Int) else .int .i64 0)) := (World.rowIs_made w (.int .i64 0) (m + 1) 3).congr fun j _ => by simp
  have HB0 : Hid (Below w.heap.size w (w.alloc (.cells (madeCells #[.int .i64 0] (m + 1)) 3))) := (Below.refl _ _).alloc (Nat.le_refl _) _
  clear hmk0
  go_enter Tryd.func6, Tryd.ntmps6
  go_wp2_with fail
  clear hmk
  generalize w.alloc (.cells (madeCells #[.int .i64 0] (m + 1)) 3) = w1 at *
  go_loopg [19] (m + 1) (fun g s19 wx => ∃ k : Nat, k ≤ m + 1 ∧ g = m + 1 - k ∧ s19 = .int .i64 (k : Int) ∧ Hid (wx.rowIs w.heap.size 3 (m + 1) (fun j => if j < k then .int .i64 (j : Int) else .int .i64 0)) ∧ Hid (Below w.heap.size w wx))
  case atStart => exact ⟨0, Nat.zero_le _, rfl, rfl, HR0, HB0⟩
  case round =>
    clear HR0 HB0
    obtain ⟨k, hk, rfl, rfl, hR, hbel⟩ := hrel
    by_cases hkm : k < m + 1
    · have i1 : (k : Int) < (m : Int) + 1 := by omega
      have c1 := hR.out.cell hkm
      have f1 := hR.out.frozen k
      have HR1 : Hid ((wr.setCell ⟨w.heap.size, k, none⟩ (.int .i64 (k : Int))).rowIs w.heap.size 3 (m + 1) (fun j => if j < k + 1 then .int .i64 (j : Int) else .int .i64 0)) := (hR.out.set k (.int .i64 (k : Int))).congr fun j _ => by
        by_cases h : j = k
        · subst h; simp
        · rw [if_neg h]
          by_cases h2 : j < k
          · rw [if_pos h2, if_pos (by omega)]
          · rw [if_neg h2, if_neg (by omega)]
      have HB1 : Hid (Below w.heap.size w (wr.setCell ⟨w.heap.size, k, none⟩ (.int .i64 (k : Int)))) := hbel.out.setCell (p := ⟨w.heap.size, k, none⟩) (Nat.le_refl _) _
      rw [if_neg (Nat.lt_irrefl _)] at c1
      clear hR hbel
      go_wp2_with fail
      go_roundg (m + 1 - (k + 1))
      case rel => exact ⟨k + 1, by omega, rfl, by go_num, HR1, HB1⟩
      case measure => omega
    · obtain rfl : k = m + 1 := by omega
      have i1 : ¬ ((m + 1 : Nat) : Int) < (m : Int) + 1 := by omega
      have HR1 : Hid (wr.rowIs w.heap.size 3 (m + 1) (fun j => .int .i64 (Lv.dp xs ys 0 j : Nat))) := hR.out.congr fun j hj => by
        rw [if_pos (by omega), HDL.out j (by have := HM.out; omega)]
      clear hR
      go_wp2_with fail
      go_loopg [29] n (fun g s29 wx => ∃ i : Nat, i ≤ n ∧ g = n - i ∧ s29 = .int .i64 (i : Int) ∧ Hid (wx.rowIs w.heap.size 3 (m + 1) (fun j => .int .i64 (Lv.dp xs ys i j : Nat))) ∧ Hid (Below w.heap.size w wx))
      case atStart => exact ⟨0, Nat.zero_le _, rfl, rfl, HR1, hbel⟩
      case round =>
        clear HR1 hbel hk i1
        obtain ⟨i, hi, rfl, rfl, hR, hbel⟩ := hrel
        by_cases hin : i < n
        · have i1 : (i : Int) < (n : Int) := by omega
          have hix : i < xs.length := by rw [← HN.out]; exact hin
          obtain ⟨g, o, rfl, hg, hcu⟩ := HU.out (by omega)
          have c1 : wr.cell? ⟨g, o + i, none⟩ = some (.int .i64 xs[i]) := (hbel.out.cell (p := ⟨g, o + i, none⟩) hg).trans (hcu i hix)
          have c2 := hR.out.cell (i := 0) (by omega)
          have f2 := hR.out.frozen 0
          have HST := Lib.hid (fun k hk => HDS.out i k hix hk)
          have HR1 : Hid ((wr.setCell ⟨w.heap.size, 0, none⟩ (.int .i64 ((i : Int) + 1))).rowIs w.heap.size 3 (m + 1) (fun j => if j ≤ 0 then .int .i64 (Lv.dp xs ys (i + 1) j : Nat) else .int .i64 (Lv.dp xs ys i j : Nat))) := (hR.out.set 0 (.int .i64 ((i : Int) + 1))).congr fun j _ => by
            by_cases h : j = 0
            · subst h
              rw [if_pos rfl, if_pos (Nat.le_refl _), HDR.out (i + 1) hix]
              simp
            · rw [if_neg h, if_neg (by omega)]
          have HB1 : Hid (Below w.heap.size w (wr.setCell ⟨w.heap.size, 0, none⟩ (.int .i64 ((i : Int) + 1)))) := hbel.out.setCell (p := ⟨w.heap.size, 0, none⟩) (Nat.le_refl _) _
          have hi2 : (i : Int) ≤ 1000000 := by omega
          generalize xs[i] = x at *
          clear hcu hR hbel
          go_wp2_with fail
          clear c1 c2 f2
          generalize wr.setCell ⟨w.heap.size, 0, none⟩ (.int .i64 ((i : Int) + 1)) = w2 at *
          go_loopg [9, 43] m (fun g s9 s43 wx => ∃ k : Nat, k ≤ m ∧ g = m - k ∧ s9 = .int .i64 (Lv.dp xs ys i k : Nat) ∧ s43 = .int .i64 (k : Int) ∧ Hid (wx.rowIs w.heap.size 3 (m + 1) (fun j => if j ≤ k then .int .i64 (Lv.dp xs ys (i + 1) j : Nat) else .int .i64 (Lv.dp xs ys i j : Nat))) ∧ Hid (Below w.heap.size w wx))
          case atStart => exact ⟨0, Nat.zero_le _, rfl, rfl, rfl, HR1, HB1⟩
          case round =>
            clear HR1 HB1
            obtain ⟨k, hk, rfl, rfl, rfl, hR, hbel⟩ := hrel
            by_cases hkm : k < m
            · have j1 : (k : Int) < (m : Int) := by omega
              have hky : k < ys.length := by rw [← HM.out]; exact hkm
              obtain ⟨g2, o2, rfl, hg2, hcu2⟩ := HV.out (by omega)
              have d1 : wr.cell? ⟨g2, o2 + k, none⟩ = some (.int .i64 ys[k]) := (hbel.out.cell (p := ⟨g2, o2 + k, none⟩) hg2).trans (hcu2 k hky)
              have d2 := hR.out.cell (i := k + 1) (by omega)
              have d3 := hR.out.cell (i := k) (by omega)
              have f2 := hR.out.frozen (k + 1)
              rw [if_neg (by omega)] at d2
              rw [if_pos (Nat.le_refl _)] at d3
              have hst := HST.out k hky
              have l1 := HLE.out i k
              have l2 := HLE.out i (k + 1)
              have l3 := HLE.out (i + 1) k
              have HR1 : Hid ((wr.setCell ⟨w.heap.size, k + 1, none⟩ (.int .i64 (Lv.dp xs ys (i + 1) (k + 1) : Nat))).rowIs w.heap.size 3 (m + 1) (fun j => if j ≤ k + 1 then .int .i64 (Lv.dp xs ys (i + 1) j : Nat) else .int .i64 (Lv.dp xs ys i j : Nat))) := (hR.out.set (k + 1) (.int .i64 (Lv.dp xs ys (i + 1) (k + 1) : Nat))).congr fun j _ => by
                by_cases h : j = k + 1
                · subst h; simp
                · rw [if_neg h]
                  by_cases h2 : j ≤ k
                  · rw [if_pos h2, if_pos (by omega)]
                  · rw [if_neg h2, if_neg (by omega)]
              have HB1 : Hid (Below w.heap.size w (wr.setCell ⟨w.heap.size, k + 1, none⟩ (.int .i64 (Lv.dp xs ys (i + 1) (k + 1) : Nat)))) := hbel.out.setCell (p := ⟨w.heap.size, k + 1, none⟩) (Nat.le_refl _) _
              generalize ys[k] = y at *
              clear hcu2 hR hbel
              generalize Lv.dp xs ys i k = A at *
              generalize hBB : Lv.dp xs ys i (k + 1) = BB at *
              generalize Lv.dp xs ys (i + 1) k = C at *
              generalize Lv.dp xs ys (i + 1) (k + 1) = V at *
              have k1 : 0 ≤ (A : Int) ∧ (A : Int) ≤ 1000000 := by omega
              have k2 : 0 ≤ (BB : Int) ∧ (BB : Int) ≤ 1000000 := by omega
              have k3 : 0 ≤ (C : Int) ∧ (C : Int) ≤ 1000000 := by omega
              by_cases hxy : x = y
              · have he : (x != y) = false := by simpa using hxy
                rw [if_pos hxy] at hst
                have hmin : Hid ((V : Int) = min (A : Int) (min ((BB : Int) + 1) ((C : Int) + 1))) := by show _ = _; omega
                clear hxy hst
                go_wp2_with fail
                all_goals
                  go_roundg (m - (k + 1))
                  case rel =>
                    refine ⟨k + 1, by omega, rfl, by rw [hBB], by go_num, ?_, ?_⟩
                    · have h := HR1
                      first
                        | (have e : (V : Int) = (A : Int) := by have := hmin.out; omega
                           rw [e] at h; exact h)
                        | (have e : (V : Int) = (BB : Int) + 1 := by have := hmin.out; omega
                           rw [e] at h; exact h)
                        | (have e : (V : Int) = (C : Int) + 1 := by have := hmin.out; omega
                           rw [e] at h; exact h)
                    · have h := HB1
                      first
                        | (have e : (V : Int) = (A : Int) := by have := hmin.out; omega
                           rw [e] at h; exact h)
                        | (have e : (V : Int) = (BB : Int) + 1 := by have := hmin.out; omega
                           rw [e] at h; exact h)
                        | (have e : (V : Int) = (C : Int) + 1 := by have := hmin.out; omega
                           rw [e] at h; exact h)
                  case measure => omega
              · have he : (x != y) = true := by simpa using hxy
                rw [if_neg hxy] at hst
                have hmin : Hid ((V : Int) = min ((A : Int) + 1) (min ((BB : Int) + 1) ((C : Int) + 1))) := by show _ = _; omega
                clear hxy hst
                go_wp2_with fail
                all_goals
                  go_roundg (m - (k + 1))
                  case rel =>
                    refine ⟨k + 1, by omega, rfl, by rw [hBB], by go_num, ?_, ?_⟩
                    · have h := HR1
                      first
                        | (have e : (V : Int) = (A : Int) + 1 := by have := hmin.out; omega
                           rw [e] at h; exact h)
                        | (have e : (V : Int) = (BB : Int) + 1 := by have := hmin.out; omega
                           rw [e] at h; exact h)
                        | (have e : (V : Int) = (C : Int) + 1 := by have := hmin.out; omega
                           rw [e] at h; exact h)
                    · have h := HB1
                      first
                        | (have e : (V : Int) = (A : Int) + 1 := by have := hmin.out; omega
                           rw [e] at h; exact h)
                        | (have e : (V : Int) = (BB : Int) + 1 := by have := hmin.out; omega
                           rw [e] at h; exact h)
                        | (have e : (V : Int) = (C : Int) + 1 := by have := hmin.out; omega
                           rw [e] at h; exact h)
                  case measure => omega
            · obtain rfl : k = m := by omega
              have j1 : ¬ (k : Int) < (k : Int) := by omega
              have HR1 : Hid (wr.rowIs w.heap.size 3 (k + 1) (fun j => .int .i64 (Lv.dp xs ys (i + 1) j : Nat))) := hR.out.congr fun j hj => by rw [if_pos (by omega)]
              clear hR
              go_wp2_with fail
              go_roundg (n - (i + 1))
              case rel => exact ⟨i + 1, by omega, rfl, by go_num, HR1, hbel⟩
              case measure => omega
        · obtain rfl : i = n := by omega
          have i1 : ¬ (i : Int) < (i : Int) := by omega
          have c1 := hR.out.cell (i := m) (by omega)
          have e := HDF.out
          rw [← HN.out, ← HM.out] at e
          rw [e] at c1
          clear e hR
          go_wp2_with fail
          go_ret
          exact ⟨rfl, hbel.out⟩
end Go.Proofs.YthhfmcikfdagiaaDoor

/-
  Distance, the document's: a table of distances from the ends, row by row from the last one.
-/
namespace Go.Proofs.YthhfmcikfdagiaaDoor
open Go.RowKit

theorem Tryd.infoII : (Tryd.prog.info? 22).map (fun i => (i.zero, i.size, i.bytes)) = some (some (.slice none 0 0), 1, 24) := by kernel_rfl
namespace Lv
/-- The distance of two ends. -/
def de (xs ys : List Int) (i k : Nat) : Nat := dist (xs.drop i) (ys.drop k)
theorem de_left (xs ys : List Int) {k : Nat} : de xs ys xs.length k = ys.length - k := by
  unfold de
  rw [List.drop_length, dist_nil, List.length_drop]
theorem de_right (xs ys : List Int) {i : Nat} : de xs ys i ys.length = xs.length - i := by
  unfold de
  rw [List.drop_length, dist_nil', List.length_drop]
theorem de_step (xs ys : List Int) {i k : Nat} (hi : i < xs.length) (hk : k < ys.length) : de xs ys i k = min (de xs ys (i + 1) (k + 1) + if xs[i] = ys[k] then 0 else 1) (min (de xs ys (i + 1) k + 1) (de xs ys i (k + 1) + 1)) := by
  unfold de
  rw [List.drop_eq_getElem_cons hi, List.drop_eq_getElem_cons hk]
  exact dist_cons _ _ _ _
theorem de_le (xs ys : List Int) (i k : Nat) : de xs ys i k ≤ max xs.length ys.length := by
  have := dist_max (xs.drop i) (ys.drop k)
  rw [List.length_drop, List.length_drop] at this
  unfold de
  omega
end Lv
/-- The table, from a row on. -/
def Tr (w : World) (T n m : Nat) (D : Nat → Nat → Nat) (i : Nat) : Prop :=
  ∃ f, w.rowIs T 22 (n + 1) f ∧ (i ≤ n → ∃ G, f i = .slice (some ⟨G, 0, none⟩) (m + 1) (m + 1) ∧ w.rowIs G 3 (m + 1) (fun k => .int .i64 (D i k : Nat)))
/-- The table, from a row's place on. -/
def Tn (w : World) (T n m : Nat) (D : Nat → Nat → Nat) (i G k : Nat) : Prop :=
  ∃ f, w.rowIs T 22 (n + 1) f ∧ f i = .slice (some ⟨G, 0, none⟩) (m + 1) (m + 1) ∧ w.rowIs G 3 (m + 1) (fun j => if k ≤ j then .int .i64 (D i j : Nat) else .int .i64 0) ∧
    (i < n → ∃ G1, G1 ≠ G ∧ f (i + 1) = .slice (some ⟨G1, 0, none⟩) (m + 1) (m + 1) ∧ w.rowIs G1 3 (m + 1) (fun k => .int .i64 (D (i + 1) k : Nat)))
theorem row_ne {w : World} {T G n m : Nat} {f g : Nat → Value} (h : w.rowIs T 22 n f) (k : w.rowIs G 3 m g) : T ≠ G := by
  rintro rfl
  obtain ⟨c, h1, _⟩ := h
  obtain ⟨c', h2, _⟩ := k
  rw [h1] at h2
  injection h2 with h2
  injection h2 with _ h3
  exact absurd h3 (by decide)
theorem row_far {w w' : World} {G m : Nat} {t : TypeId} {g : Nat → Value} (h : w.rowIs G t m g) (e : w'.heap[G]? = w.heap[G]?) : w'.rowIs G t m g := h.of_block e
theorem Tr.start {w : World} {T n m : Nat} {D : Nat → Nat → Nat} {i : Nat} (h : Tr w T n m D (i + 1)) :
    Tn ((w.setCell ⟨T, i, none⟩ (.slice (some ⟨w.heap.size, 0, none⟩) (m + 1) (m + 1))).alloc (.cells (madeCells #[.int .i64 0] (m + 1)) 3)) T n m D i w.heap.size (m + 1) := by
  obtain ⟨f, h1, h2⟩ := h
  have hT := h1.lt
  refine ⟨_, (h1.set i (.slice (some ⟨w.heap.size, 0, none⟩) (m + 1) (m + 1))).alloc _, by simp, ?_, fun hin => ?_⟩
  · have := World.rowIs_made (w.setCell ⟨T, i, none⟩ (.slice (some ⟨w.heap.size, 0, none⟩) (m + 1) (m + 1))) (.int .i64 0) (m + 1) 3
    rw [show (w.setCell ⟨T, i, none⟩ (.slice (some ⟨w.heap.size, 0, none⟩) (m + 1) (m + 1))).heap.size = w.heap.size from by simp] at this
    exact this.congr fun j hj => by rw [if_neg (by omega)]
  · obtain ⟨G, h3, h4⟩ := h2 hin
    have hne := row_ne h1 h4
    have hG := h4.lt
    refine ⟨G, by omega, by rw [if_neg (by omega)]; exact h3, row_far h4 ?_⟩
    rw [Go.Deep.blk_alloc_lt _ _ _ (by simpa using hG)]
    exact Go.Deep.blk_setCell_other _ _ _ _ (Ne.symm hne)
theorem Tn.stop {w : World} {T n m : Nat} {D : Nat → Nat → Nat} {i G : Nat} (h : Tn w T n m D i G 0) : Tr w T n m D i := by
  obtain ⟨f, h1, h2, h3, _⟩ := h
  exact ⟨f, h1, fun _ => ⟨G, h2, h3.congr fun j _ => by simp⟩⟩
theorem Tn.go {w : World} {T n m : Nat} {D : Nat → Nat → Nat} {i G k : Nat} (h : Tn w T n m D i G (k + 1)) : Tn (w.setCell ⟨G, k, none⟩ (.int .i64 (D i k : Nat))) T n m D i G k := by
  obtain ⟨f, h1, h2, h3, h4⟩ := h
  have hne := row_ne h1 h3
  refine ⟨f, row_far h1 (Go.Deep.blk_setCell_other _ _ _ _ hne), h2, (h3.set k (.int .i64 (D i k : Nat))).congr fun j _ => ?_, fun hin => ?_⟩
  · by_cases e : j = k
    · subst e; simp
    · rw [if_neg e]
      by_cases h2 : k + 1 ≤ j
      · rw [if_pos h2, if_pos (by omega)]
      · rw [if_neg h2, if_neg (by omega)]
  · obtain ⟨G1, q1, q2, q3⟩ := h4 hin
    exact ⟨G1, q1, q2, row_far q3 (Go.Deep.blk_setCell_other _ _ _ _ q1)⟩

set_option maxRecDepth 100000 in
set_option maxHeartbeats 4000000 in
theorem distR_any (w : World) (u v : Value) (xs ys : List Int) (hu : IntS w u xs) (hv : IntS w v ys) (hx : xs.length ≤ 1000000) (hy : ys.length ≤ 1000000) :
    Calls Tryd.prog 7 #[u, v] w fun e w' => e = .returned (.int .i64 (Lv.dist xs ys : Nat)) ∧ Below w.heap.size w w' := by
  obtain ⟨a, ca, rfl, _, _, hu⟩ := hu
  obtain ⟨b, cb, rfl, _, _, hv⟩ := hv
  have HU := Lib.hid hu
  have HV := Lib.hid hv
  have HDL := Lib.hid (fun k => Lv.de_left xs ys (k := k))
  have HDR := Lib.hid (fun i => Lv.de_right xs ys (i := i))
  have HDS := Lib.hid (fun i k hi hk => Lv.de_step xs ys (i := i) (k := k) hi hk)
  have HLE : Hid (∀ i k, Lv.de xs ys i k ≤ 1000000) := fun i k => by have := Lv.de_le xs ys i k; omega
  have HDF : Hid (Lv.de xs ys 0 0 = Lv.dist xs ys) := rfl
  obtain ⟨n, hn⟩ : ∃ n, n = xs.length := ⟨_, rfl⟩
  obtain ⟨m, hm⟩ : ∃ m, m = ys.length := ⟨_, rfl⟩
  have HN := Lib.hid hn
  have HM := Lib.hid hm
  rw [← hn, ← hm] at HDL HDR
  rw [← hn] at hx ⊢
  rw [← hm] at hy ⊢
  clear hu hv hn hm
  have hmk0 := run_make_row' (P := Tryd.prog) 32 22 (.slice none 0 0) 24 Tryd.underlying32 Tryd.infoII rfl .i64 .i64 (n + 1) (by omega) (by omega)
  have hmk : ∀ w, (Instr.makeSlice 32 (.int .i64 ((n : Int) + 1)) (.int .i64 ((n : Int) + 1))).run Tryd.prog w = .ok (.slice (some ⟨w.heap.size, 0, none⟩) (n + 1) (n + 1)) (w.alloc (.cells (madeCells #[.slice none 0 0] (n + 1)) 22)) := hmk0
  have hmk1 := run_make_row' (P := Tryd.prog) 22 3 (.int .i64 0) 8 Tryd.underlying22 Tryd.infoI rfl .i64 .i64 (m + 1) (by omega) (by omega)
  have hmk2 : ∀ w, (Instr.makeSlice 22 (.int .i64 ((m : Int) + 1)) (.int .i64 ((m : Int) + 1))).run Tryd.prog w = .ok (.slice (some ⟨w.heap.size, 0, none⟩) (m + 1) (m + 1)) (w.alloc (.cells (madeCells #[.int .i64 0] (m + 1)) 3)) := hmk1
  have HR0 : Hid (Tr (w.alloc (.cells (madeCells #[.slice none 0 0] (n + 1)) 22)) w.heap.size n m (Lv.de xs ys) (n + 1)) := ⟨_, World.rowIs_made w (.slice none 0 0) (n + 1) 22, fun h => by omega⟩
  have HB0 : Hid (Below w.heap.size w (w.alloc (.cells (madeCells #[.slice none 0 0] (n + 1)) 22))) := (Below.refl _ _).alloc (Nat.le_refl _) _
  clear hmk0 hmk1
  go_enter Tryd.func7, Tryd.ntmps7
  go_wp2_with fail
  clear hmk
  generalize w.alloc (.cells (madeCells #[.slice none 0 0] (n + 1)) 22) = w1 at *
  go_loopg [6] (n + 1) (fun g s6 wx => ∃ i : Nat, i ≤ n + 1 ∧ i = g ∧ s6 = .int .i64 ((i : Int) - 1) ∧ Hid (Tr wx w.heap.size n m (Lv.de xs ys) i) ∧ Hid (Below w.heap.size w wx))
  case atStart => exact ⟨n + 1, Nat.le_refl _, rfl, by go_num, HR0, HB0⟩
  case round =>
    clear HR0 HB0
    obtain ⟨i, hi, rfl, rfl, hR, hbel⟩ := hrel
    by_cases hi0 : i = 0
    · subst hi0
      obtain ⟨f, h1, h2⟩ := hR.out
      obtain ⟨G, h3, h4⟩ := h2 (Nat.zero_le _)
      have c1 := h1.cell (i := 0) (by omega)
      rw [h3] at c1
      have c2 := h4.cell (i := 0) (by omega)
      rw [HDF.out] at c2
      clear h1 h2 h3 h4 hR
      go_wp2_with fail
      go_ret
      exact ⟨rfl, hbel.out⟩
    · obtain ⟨i, rfl⟩ : ∃ j, i = j + 1 := ⟨i - 1, by omega⟩
      have s6 : (((i + 1 : Nat) : Int) - 1) = (i : Int) := by omega
      rw [s6]
      have hin : i ≤ n := by omega
      have i1 : (0 : Int) ≤ (i : Int) := by omega
      have HST := Lib.hid hR.out.start
      obtain ⟨f, h1, _⟩ := hR.out
      have c1 := h1.cell (i := i) (by omega)
      have f1 := h1.frozen i
      have hT := h1.lt
      have HB1 : Hid (Below w.heap.size w ((wr.setCell ⟨w.heap.size, i, none⟩ (.slice (some ⟨wr.heap.size, 0, none⟩) (m + 1) (m + 1))).alloc (.cells (madeCells #[.int .i64 0] (m + 1)) 3))) := (hbel.out.setCell (p := ⟨w.heap.size, i, none⟩) (Nat.le_refl _) _).alloc (by simpa using hbel.out.size) _
      have k1 : (wr.alloc (.cells (madeCells #[.int .i64 0] (m + 1)) 3)).cell? ⟨w.heap.size, i, none⟩ = some (f i) := (World.cell?_of_block (w := wr) (a := ⟨w.heap.size, i, none⟩) (Go.Deep.blk_alloc_lt _ _ _ hT)).trans c1
      have k2 : (wr.alloc (.cells (madeCells #[.int .i64 0] (m + 1)) 3)).frozen? ⟨w.heap.size, i, none⟩ = false := (World.frozen?_of_block (w := wr) (a := ⟨w.heap.size, i, none⟩) (Go.Deep.blk_alloc_lt _ _ _ hT)).trans f1
      have HBG : Hid (w.heap.size ≤ wr.heap.size) := hbel.out.size
      clear h1 hR hbel
      go_wp2_with fail
      clear c1 f1 k1 k2
      obtain ⟨G, hG⟩ : ∃ G, G = wr.heap.size := ⟨_, rfl⟩
      rw [← hG] at HST HB1 HBG ⊢
      clear hG
      generalize (wr.setCell ⟨w.heap.size, i, none⟩ (.slice (some ⟨G, 0, none⟩) (m + 1) (m + 1))).alloc (.cells (madeCells #[.int .i64 0] (m + 1)) 3) = w2 at *
      go_loopg [7] (m + 1) (fun g s7 wx => ∃ k : Nat, k ≤ m + 1 ∧ k = g ∧ s7 = .int .i64 ((k : Int) - 1) ∧ Hid (Tn wx w.heap.size n m (Lv.de xs ys) i G k) ∧ Hid (Below w.heap.size w wx))
      case atStart => exact ⟨m + 1, Nat.le_refl _, rfl, by go_num, HST, HB1⟩
      case round =>
        clear HST HB1
        obtain ⟨k, hk, rfl, rfl, hR, hbel⟩ := hrel
        by_cases hk0 : k = 0
        · subst hk0
          have HR1 := Lib.hid hR.out.stop
          clear hR
          go_wp2_with fail
          go_roundg i
          case rel => exact ⟨i, by omega, rfl, by go_num, HR1, hbel⟩
          case measure => omega
        · obtain ⟨k, rfl⟩ : ∃ j, k = j + 1 := ⟨k - 1, by omega⟩
          have s7 : (((k + 1 : Nat) : Int) - 1) = (k : Int) := by omega
          rw [s7]
          have hkm : k ≤ m := by omega
          have j1 : (0 : Int) ≤ (k : Int) := by omega
          have HR1 := Lib.hid hR.out.go
          obtain ⟨f, h1, h2, h3, h4⟩ := hR.out
          have c1 := h1.cell (i := i) (by omega)
          rw [h2] at c1
          have d1 := h3.cell (i := k) (by omega)
          have f1 := h3.frozen k
          rw [if_neg (by omega)] at d1
          have HB1 : Hid (Below w.heap.size w (wr.setCell ⟨G, k, none⟩ (.int .i64 (Lv.de xs ys i k : Nat)))) := hbel.out.setCell (p := ⟨G, k, none⟩) HBG.out _
          by_cases hend : i = n ∨ k = m
          · have hv : Hid ((Lv.de xs ys i k : Int) = (n : Int) - (i : Int) + (m : Int) - (k : Int)) := by
              show _ = _
              rcases hend with rfl | rfl
              · have := HDL.out k; omega
              · have := HDR.out i; omega
            rw [hv.out] at HR1 HB1
            clear h1 h2 h3 h4 hR hbel hv
            by_cases hi2 : i = n
            · have e1 : ((i : Int) == (n : Int)) = true := by simp [hi2]
              clear hi2 hend
              go_wp2_with fail
              go_roundg k
              case rel => exact ⟨k, by omega, rfl, by go_num, HR1, HB1⟩
              case measure => omega
            · have e1 : ((i : Int) == (n : Int)) = false := by simp; omega
              have e2 : ((k : Int) == (m : Int)) = true := by
                rcases hend with h | h
                · exact absurd h hi2
                · simp [h]
              clear hi2 hend
              go_wp2_with fail
              go_roundg k
              case rel => exact ⟨k, by omega, rfl, by go_num, HR1, HB1⟩
              case measure => omega
          · have hi2 : i < n := by omega
            have hk2 : k < m := by omega
            have e1 : ((i : Int) == (n : Int)) = false := by simp; omega
            have e2 : ((k : Int) == (m : Int)) = false := by simp; omega
            obtain ⟨G1, _, q2, q3⟩ := h4 hi2
            have c2 := h1.cell (i := i + 1) (by omega)
            rw [q2] at c2
            have d2 := q3.cell (i := k + 1) (by omega)
            have d3 := q3.cell (i := k) (by omega)
            have d4 := h3.cell (i := k + 1) (by omega)
            rw [if_pos (Nat.le_refl _)] at d4
            have hix : i < xs.length := by rw [← HN.out]; exact hi2
            have hky : k < ys.length := by rw [← HM.out]; exact hk2
            obtain ⟨g1, o1, rfl, hg1, hcu1⟩ := HU.out (by omega)
            obtain ⟨g2, o2, rfl, hg2, hcu2⟩ := HV.out (by omega)
            have x1 : wr.cell? ⟨g1, o1 + i, none⟩ = some (.int .i64 xs[i]) := (hbel.out.cell (p := ⟨g1, o1 + i, none⟩) hg1).trans (hcu1 i hix)
            have x2 : wr.cell? ⟨g2, o2 + k, none⟩ = some (.int .i64 ys[k]) := (hbel.out.cell (p := ⟨g2, o2 + k, none⟩) hg2).trans (hcu2 k hky)
            have hst := HDS.out i k hix hky
            have l1 := HLE.out (i + 1) (k + 1)
            have l2 := HLE.out (i + 1) k
            have l3 := HLE.out i (k + 1)
            have i2 : (i : Int) < (n : Int) := by omega
            have k2 : (k : Int) < (m : Int) := by omega
            clear h1 h2 h3 h4 hR hbel q2 q3 hend hcu1 hcu2
            generalize xs[i] = x at *
            generalize ys[k] = y at *
            generalize Lv.de xs ys (i + 1) (k + 1) = A at *
            generalize Lv.de xs ys (i + 1) k = BB at *
            generalize Lv.de xs ys i (k + 1) = C at *
            generalize Lv.de xs ys i k = V at *
            have hxy : (x != y) = !decide (x = y) := by
              by_cases h : x = y <;> simp [h]
            obtain ⟨bn, hbn⟩ : ∃ bn, (x != y) = bn := ⟨_, rfl⟩
            have hst2 : Hid (V = min (if bn = true then A + 1 else A) (min (BB + 1) (C + 1))) := by
              show _ = _
              rw [hst, ← hbn, hxy]
              by_cases h : x = y <;> simp [h]
            clear hst hxy
            go_wp2_with fail
            go_region
            have c1 : wr.drew.cell? ⟨w.heap.size, i, none⟩ = some (.slice (some ⟨G, 0, none⟩) (m + 1) (m + 1)) := c1
            have c2 : wr.drew.cell? ⟨w.heap.size, i + 1, none⟩ = some (.slice (some ⟨G1, 0, none⟩) (m + 1) (m + 1)) := c2
            have d1 : wr.drew.cell? ⟨G, k, none⟩ = some (.int .i64 0) := d1
            have f1 : wr.drew.frozen? ⟨G, k, none⟩ = false := f1
            have d3 : wr.drew.cell? ⟨G1, k, none⟩ = some (.int .i64 (BB : Int)) := d3
            have d4 : wr.drew.cell? ⟨G, k + 1, none⟩ = some (.int .i64 (C : Int)) := d4
            have HR1 : Hid (Tn (wr.drew.setCell ⟨G, k, none⟩ (.int .i64 (V : Int))) w.heap.size n m (Lv.de xs ys) i G k) := HR1
            have HB1 : Hid (Below w.heap.size w (wr.drew.setCell ⟨G, k, none⟩ (.int .i64 (V : Int)))) := HB1.out.drew
            clear x1 x2 d2
            generalize wr.drew = w5 at *
            have k1 : 0 ≤ (A : Int) ∧ (A : Int) ≤ 1000000 := by omega
            have k3 : 0 ≤ (BB : Int) ∧ (BB : Int) ≤ 1000000 := by omega
            have k4 : 0 ≤ (C : Int) ∧ (C : Int) ≤ 1000000 := by omega
            cases bn
            case' false =>
              obtain ⟨A2, hA2⟩ : ∃ A2 : Nat, A2 = A := ⟨_, rfl⟩
              have hmin : Hid (V = min A2 (min (BB + 1) (C + 1))) := by
                show _ = _
                rw [hst2.out, hA2]
                simp
              have kA : 0 ≤ (A2 : Int) ∧ (A2 : Int) ≤ 1000001 := by omega
              go_upto_region 14 with (fail)
            case' true =>
              obtain ⟨A2, hA2⟩ : ∃ A2 : Nat, A2 = A + 1 := ⟨_, rfl⟩
              have hmin : Hid (V = min A2 (min (BB + 1) (C + 1))) := by
                show _ = _
                rw [hst2.out, hA2]
                simp
              have kA : 0 ≤ (A2 : Int) ∧ (A2 : Int) ≤ 1000001 := by omega
              go_upto_region 14 with (fail)
            all_goals
              clear hst2 hbn
              by_cases p1 : BB + 1 < A2 <;> by_cases p2 : C + 1 < min A2 (BB + 1)
              all_goals
                have hm2 := hmin.out
                go_wp2_with fail
                go_roundg k
                case rel =>
                  refine ⟨k, by omega, rfl, by go_num, ?_, ?_⟩
                  · have h := HR1
                    first
                      | (have e : (V : Int) = (A : Int) := by omega
                         rw [e] at h; exact h)
                      | (have e : (V : Int) = (A : Int) + 1 := by omega
                         rw [e] at h; exact h)
                      | (have e : (V : Int) = (BB : Int) + 1 := by omega
                         rw [e] at h; exact h)
                      | (have e : (V : Int) = (C : Int) + 1 := by omega
                         rw [e] at h; exact h)
                  · have h := HB1
                    first
                      | (have e : (V : Int) = (A : Int) := by omega
                         rw [e] at h; exact h)
                      | (have e : (V : Int) = (A : Int) + 1 := by omega
                         rw [e] at h; exact h)
                      | (have e : (V : Int) = (BB : Int) + 1 := by omega
                         rw [e] at h; exact h)
                      | (have e : (V : Int) = (C : Int) + 1 := by omega
                         rw [e] at h; exact h)
                case measure => omega
end Go.Proofs.YthhfmcikfdagiaaDoor

/-
  What Fuzzy and the document's May answer; and the fixed answers of the stage.
-/
namespace Go.Proofs.YthhfmcikfdagiaaDoor
open Go.RowKit

namespace Lv
end Lv

theorem letters_none (w : World) (s : ByteArray) (hT : Tabs w) (hs : s.size ≤ 17592186044415) : Calls Tryd.prog 10 #[.string s, .string ⟨#[]⟩] w fun e w' => ∃ v, e = .returned (.tuple #[v, .int .i64 (Wl.letE s.data.toList [])]) ∧ OwnI w' w.heap.size v (Wl.letS s.data.toList []) ∧ Below w.heap.size w w' := by
  have hl := letters_any w s ⟨#[]⟩ hT hs
  unfold LetPost at hl
  exact hl

set_option maxRecDepth 100000 in
set_option maxHeartbeats 1000000 in
theorem fuzzy_ok (w : World) (s : ByteArray) (hT : Tabs w) (hs : s.size ≤ 17592186044415) (h : Wl.letE s.data.toList [] = 0) {K x : Nat} (hK : K ≤ 2) (hx : x ≤ (Wl.letS s.data.toList []).length) {d : List Au.St} (hd : Lv.Out (Wl.letS s.data.toList []) K x d) :
    Calls Tryd.prog 8 #[.string s, .int .i64 (K : Int), .int .i64 (x : Int)] w fun e w' => ∃ v, e = .returned (.tuple #[v, .int .i64 0]) ∧ StO w.heap.size w' v d ∧ Below w.heap.size w w' := by
  have hl := letters_none w s hT hs
  rw [h] at hl
  have hlen := (Wl.letE_ok h).2.2.2.1
  have he := hd.e
  have hdl := hd.l
  generalize Wl.letS s.data.toList [] = S at *
  have HLO : Hid (∀ W u, IntS W u S → Calls Tryd.prog 12 #[u, .int .i64 (K : Int), .int .i64 (x : Int)] W fun e w' => ∃ v' vals, e = .returned v' ∧ LoO w' W.heap.size v' vals (Lv.auto S K x) ∧ Below W.heap.size W w') := fun W u hu => looseOf_any W u S hu hlen K x hK hx
  have HTT : Hid (∀ W u, LoS (fun _ => True) W u (Lv.auto S K x) → Calls Tryd.prog 11 #[u, .int .i64 20000] W fun e w' => ∃ v, e = .returned (.tuple #[v, .int .i64 0]) ∧ StO W.heap.size w' v d ∧ Below W.heap.size W w') := fun W u hu => by
    have hb := Lv.auto_bound (K := K) (x := x) hlen hx hK
    have := tightP_any (fun _ => True) W u (Lv.auto S K x) 20000 hu (by omega) (Lv.auto_rows hlen hx hK) (by decide)
    rw [he, hdl] at this
    exact this
  have HL := Lib.hid hl
  have i1 : ¬ (K : Int) < 0 := by omega
  have i2 : ¬ (2 : Int) < (K : Int) := by omega
  have i3 : ¬ (x : Int) < 0 := by omega
  have i4 : ¬ ((S.length : Nat) : Int) < (x : Int) := by omega
  clear hl h hd he hdl hT
  go_enter Tryd.func8, Tryd.ntmps8
  go_wp2_with fail
  refine HL.out.mono ?_
  rintro e w1 ⟨v, rfl, hown, hb⟩
  have HI1 := Lib.hid (hown.ints (by omega))
  have HB := Lib.hid hb
  have HLW := Lib.hid (HLO.out w1 _ HI1.out)
  obtain ⟨a6, c6, rfl, _⟩ := ownI_cells hown
  clear hown hb
  go_wp2_with fail
  refine HLW.out.mono ?_
  rintro e w2 ⟨v2, vals, rfl, hO2, hb2⟩
  have HT2 := Lib.hid (HTT.out w2 v2 (hO2.los _ fun _ _ => trivial))
  have HB2 : Hid (Below w.heap.size w w2) := HB.out.trans (hb2.mono HB.out.size)
  clear hO2 hb2
  go_wp2_with fail
  refine HT2.out.mono ?_
  rintro e w3 ⟨v3, rfl, hs3, hb3⟩
  have HS3 : Hid (StO w.heap.size w3 v3 d) := hs3.lower HB2.out.size
  have HB3 : Hid (Below w.heap.size w w3) := HB2.out.trans (hb3.mono HB2.out.size)
  clear hs3 hb3
  go_wp2_with fail
  go_ret2
  exact ⟨_, rfl, HS3.out, HB3.out⟩

end Go.Proofs.YthhfmcikfdagiaaDoor

/-
  The fixed answers of the stage.
-/
namespace Go.Proofs.YthhfmcikfdagiaaDoor
open Go.RowKit

namespace Lv
theorem awake_let : Wl.letE [102, 111, 120] [] = 0 ∧ Wl.letS [102, 111, 120] [] = [102, 111, 120] := by decide +kernel
theorem awake_dec : (Lib.validD [102, 97, 120] = true ∧ Ut.dec [102, 97, 120] = [102, 97, 120]) ∧ (Lib.validD [102, 111, 120, 121] = true ∧ Ut.dec [102, 111, 120, 121] = [102, 111, 120, 121]) ∧ Lib.validD [98, 111, 120] = true ∧ Ut.dec [98, 111, 120] = [98, 111, 120] := by decide +kernel
theorem awake_dist : dist [1, 2] [2] = 1 := by
  rw [dist_cons, dist_cons]
  simp [dist_nil, dist_nil']
theorem awake_near : within [102, 111, 120] 1 1 [102, 97, 120] ∧ within [102, 111, 120] 1 1 [102, 111, 120, 121] ∧ ¬ within [102, 111, 120] 1 1 [98, 111, 120] := by
  refine ⟨⟨by decide, rfl, ?_⟩, ⟨by decide, rfl, ?_⟩, fun h => ?_⟩
  · exact ed_dist (.sub 97 111 (.keep 120 .nil))
  · exact ed_dist (.keep 111 (.keep 120 (.del 121 .nil)))
  · have := h.2.1
    cases this
theorem Out.no {cs : List Int} {K x : Nat} {d : List Au.St} (h : Out cs K x d) {l : List UInt8} (hv : Lib.validD l = true) (hn : ¬ within cs K x (Ut.dec l)) : Au.takesL d l = false := by
  cases e : Au.takesL d l
  · rfl
  · exact absurd ((h.takes l hv).1 e) hn
end Lv

set_option maxRecDepth 100000 in
set_option maxHeartbeats 2000000 in
theorem fuzzyAwake_any (w : World) (hT : Tabs w) : Calls Tryd.prog 5 #[] w fun e w' => e = .returned (.bool true) ∧ Below w.heap.size w w' := by
  obtain ⟨k0, k1⟩ := Lv.awake_let
  obtain ⟨d, hd⟩ := Lv.word_out k0 (K := 1) (x := 1) (by rw [k1]; decide) (by decide)
  have HW : Hid (Calls Tryd.prog 8 #[.string ⟨#[102, 111, 120]⟩, .int .i64 1, .int .i64 1] w fun e w' => ∃ v, e = .returned (.tuple #[v, .int .i64 0]) ∧ StO w.heap.size w' v d ∧ Below w.heap.size w w') := fuzzy_ok w ⟨#[102, 111, 120]⟩ hT (by decide) k0 (K := 1) (x := 1) (by decide) (by rw [show (⟨#[102, 111, 120]⟩ : ByteArray).data.toList = [102, 111, 120] from rfl, k1]; decide) hd
  rw [k1] at hd
  obtain ⟨⟨v1, w1⟩, ⟨v2, w2⟩, v3, w3⟩ := Lv.awake_dec
  obtain ⟨n1, n2, n3⟩ := Lv.awake_near
  have HA : Hid (∀ W v, StS (fun _ => True) W v d → (Calls Tryd.prog 9 #[v, .string ⟨#[102, 97, 120]⟩] W fun e w' => e = .returned (.bool true) ∧ Below W.heap.size W w') ∧ (Calls Tryd.prog 9 #[v, .string ⟨#[102, 111, 120, 121]⟩] W fun e w' => e = .returned (.bool true) ∧ Below W.heap.size W w') ∧ (Calls Tryd.prog 9 #[v, .string ⟨#[98, 111, 120]⟩] W fun e w' => e = .returned (.bool false) ∧ Below W.heap.size W w')) := fun W v hv => by
    have h1 := acceptsP_any _ W v d ⟨#[102, 97, 120]⟩ (by decide) hv
    have h2 := acceptsP_any _ W v d ⟨#[102, 111, 120, 121]⟩ (by decide) hv
    have h3 := acceptsP_any _ W v d ⟨#[98, 111, 120]⟩ (by decide) hv
    have e1 : Au.takesL d (⟨#[102, 97, 120]⟩ : ByteArray).data.toList = true := (hd.takes _ v1).2 (by rw [w1]; exact n1)
    have e2 : Au.takesL d (⟨#[102, 111, 120, 121]⟩ : ByteArray).data.toList = true := (hd.takes _ v2).2 (by rw [w2]; exact n2)
    have e3 : Au.takesL d (⟨#[98, 111, 120]⟩ : ByteArray).data.toList = false := hd.no v3 (by rw [w3]; exact n3)
    rw [e1] at h1
    rw [e2] at h2
    rw [e3] at h3
    exact ⟨h1, h2, h3⟩
  have HD : Hid (∀ W : World, Calls Tryd.prog 6 #[.slice (some ⟨W.heap.size, 0, none⟩) 2 2, .slice (some ⟨W.heap.size + 1, 0, none⟩) 1 1] ((W.alloc (.cells #[.int .i64 1, .int .i64 2] 3)).alloc (.cells #[.int .i64 2] 3)) fun e w' => e = .returned (.int .i64 1) ∧ Below W.heap.size W w') := fun W => by
    have i1 : IntS (W.alloc (.cells #[.int .i64 1, .int .i64 2] 3)) (.slice (some ⟨W.heap.size, 0, none⟩) 2 2) [1, 2] := ints_lit W [1, 2] (by decide)
    have i2 : IntS ((W.alloc (.cells #[.int .i64 1, .int .i64 2] 3)).alloc (.cells #[.int .i64 2] 3)) (.slice (some ⟨W.heap.size + 1, 0, none⟩) 1 1) [2] := by
      have := ints_lit (W.alloc (.cells #[.int .i64 1, .int .i64 2] 3)) [2] (by decide)
      rw [show (W.alloc (.cells #[.int .i64 1, .int .i64 2] 3)).heap.size = W.heap.size + 1 from World.size_alloc _ _] at this
      exact this
    have hb : Below W.heap.size W ((W.alloc (.cells #[.int .i64 1, .int .i64 2] 3)).alloc (.cells #[.int .i64 2] 3)) := ((Below.refl _ _).alloc (Nat.le_refl _) _).alloc (by simp) _
    have i3 : IntS ((W.alloc (.cells #[.int .i64 1, .int .i64 2] 3)).alloc (.cells #[.int .i64 2] 3)) (.slice (some ⟨W.heap.size, 0, none⟩) 2 2) [1, 2] := i1.below ((Below.refl _ _).alloc (Nat.le_refl _) _) (Nat.le_refl _)
    refine (distP_any _ _ _ _ _ i3 i2 (by decide) (by decide)).mono ?_
    rintro e w' ⟨rfl, hb2⟩
    rw [Lv.awake_dist]
    exact ⟨rfl, hb.trans (hb2.mono hb.size)⟩
  clear hd k0 k1 v1 w1 v2 w2 v3 w3 n1 n2 n3 hT
  go_enter Tryd.func5, Tryd.ntmps5
  go_wp2_with fail
  refine HW.out.mono ?_
  rintro e w1 ⟨v, rfl, hs, hb⟩
  have HV : Hid (∀ W, Below w1.heap.size w1 W → StS (fun _ => True) W v d) := fun W hb => (hs.sts.below hb).wide fun _ _ _ => trivial
  have HB := Lib.hid hb
  have HA1 := Lib.hid (HA.out w1 v (HV.out w1 (Below.refl _ _))).1
  obtain ⟨a, c, rfl, _⟩ := hs.sts
  clear hs hb
  go_wp2_with fail
  refine HA1.out.mono ?_
  rintro e w2 ⟨rfl, hb2⟩
  have HB2 := Lib.hid hb2
  have HA2 := Lib.hid (HA.out w2 _ (HV.out w2 hb2)).2.1
  clear hb2
  go_wp2_with fail
  refine HA2.out.mono ?_
  rintro e w3 ⟨rfl, hb3⟩
  have HB3 : Hid (Below w1.heap.size w1 w3) := HB2.out.trans (hb3.mono HB2.out.size)
  have HA3 := Lib.hid (HA.out w3 _ (HV.out w3 HB3.out)).2.2
  clear hb3
  go_wp2_with fail
  refine HA3.out.mono ?_
  rintro e w4 ⟨rfl, hb4⟩
  have HB4 : Hid (Below w1.heap.size w1 w4) := HB3.out.trans (hb4.mono HB3.out.size)
  have HD4 := Lib.hid (HD.out w4)
  clear hb4
  go_wp2_with fail
  refine HD4.out.mono ?_
  rintro e w5 ⟨rfl, hb5⟩
  have HB5 : Hid (Below w1.heap.size w1 w5) := HB4.out.trans (hb5.mono HB4.out.size)
  clear hb5
  go_wp2_with fail
  go_ret
  exact ⟨rfl, HB.out.trans (HB5.out.mono HB.out.size)⟩
end Go.Proofs.YthhfmcikfdagiaaDoor

/-
  FuzzyDistances: the walk.
-/
namespace Go.Proofs.YthhfmcikfdagiaaDoor
open Go.RowKit

set_option maxRecDepth 100000 in
set_option maxHeartbeats 2000000 in
theorem distances_walk (w : World) (u v : Value) (xs ys : List Int) (hT : Tabs w) (hu : IntS w u xs) (hv : IntS w v ys) :
    Calls Tryd.prog 3 #[u, v] w fun e w' => e = .returned (.bool true) ∧ Below w.heap.size w w' := by
  have HT := Lib.hid hT
  have HU := Lib.hid hu
  have HV := Lib.hid hv
  obtain ⟨a, ca, rfl, ha1, ha2, _⟩ := hu
  obtain ⟨b, cb, rfl, hb1, hb2, _⟩ := hv
  have HA := Lib.hid (fuzzyAwake_any w hT)
  obtain ⟨n, hn⟩ : ∃ n, n = xs.length := ⟨_, rfl⟩
  obtain ⟨m, hm⟩ : ∃ m, m = ys.length := ⟨_, rfl⟩
  have HN := Lib.hid hn
  have HM := Lib.hid hm
  rw [← hn] at HU ⊢
  rw [← hm] at HV ⊢
  clear hn hm hT ha1 ha2 hb1 hb2
  by_cases hs : n ≤ 60 ∧ m ≤ 60
  · have i1 : ¬ (60 : Int) < (n : Int) := by omega
    have i2 : ¬ (60 : Int) < (m : Int) := by omega
    have HP : Hid (∀ W, Below w.heap.size w W → Calls Tryd.prog 6 #[.slice a n ca, .slice b m cb] W fun e w' => e = .returned (.int .i64 (Lv.dist xs ys : Nat)) ∧ Below W.heap.size W w') := fun W hb => distP_any W _ _ xs ys (HU.out.below hb (Nat.le_refl _)) (HV.out.below hb (Nat.le_refl _)) (by rw [← HN.out]; omega) (by rw [← HM.out]; omega)
    have HR : Hid (∀ W, Below w.heap.size w W → Calls Tryd.prog 7 #[.slice a n ca, .slice b m cb] W fun e w' => e = .returned (.int .i64 (Lv.dist xs ys : Nat)) ∧ Below W.heap.size W w') := fun W hb => distR_any W _ _ xs ys (HU.out.below hb (Nat.le_refl _)) (HV.out.below hb (Nat.le_refl _)) (by rw [← HN.out]; omega) (by rw [← HM.out]; omega)
    generalize Lv.dist xs ys = dd at *
    go_enter Tryd.func3, Tryd.ntmps3
    go_wp2_with fail
    refine HA.out.mono ?_
    rintro e w1 ⟨rfl, hb1⟩
    have HB1 := Lib.hid hb1
    have HP1 := Lib.hid (HP.out w1 hb1)
    clear hb1
    go_wp2_with fail
    refine HP1.out.mono ?_
    rintro e w2 ⟨rfl, hb2⟩
    have HB2 : Hid (Below w.heap.size w w2) := HB1.out.trans (hb2.mono HB1.out.size)
    have HR2 := Lib.hid (HR.out w2 HB2.out)
    clear hb2
    go_wp2_with fail
    refine HR2.out.mono ?_
    rintro e w3 ⟨rfl, hb3⟩
    have HB3 : Hid (Below w.heap.size w w3) := HB2.out.trans (hb3.mono HB2.out.size)
    clear hb3
    go_wp2_with fail
    go_ret
    exact ⟨by simp, HB3.out⟩
  · have hway : (60 : Int) < (n : Int) ∨ (¬ (60 : Int) < (n : Int) ∧ (60 : Int) < (m : Int)) := by omega
    clear hs
    rcases hway with i1 | ⟨i1, i2⟩
    all_goals
      go_enter Tryd.func3, Tryd.ntmps3
      go_wp2_with fail
      refine HA.out.mono ?_
      rintro e w1 ⟨rfl, hb1⟩
      have HB1 := Lib.hid hb1
      have HA1 := Lib.hid (fuzzyAwake_any w1 (HT.out.below hb1))
      clear hb1
      go_wp2_with fail
      refine HA1.out.mono ?_
      rintro e w2 ⟨rfl, hb2⟩
      have HB2 : Hid (Below w.heap.size w w2) := HB1.out.trans (hb2.mono HB1.out.size)
      clear hb2
      go_wp2_with fail
      go_ret
      exact ⟨rfl, HB2.out⟩
end Go.Proofs.YthhfmcikfdagiaaDoor

/-
  FuzzyMetric: the walk.
-/
namespace Go.Proofs.YthhfmcikfdagiaaDoor
open Go.RowKit

namespace Lv
/-- Are two lists alike as far as so many elements? -/
def alike (xs ys : List Int) (i : Nat) : Bool := decide (xs.length = ys.length ∧ xs.take i = ys.take i)
theorem alike_zero (xs ys : List Int) : alike xs ys 0 = decide (xs.length = ys.length) := by
  unfold alike
  simp
theorem alike_step {xs ys : List Int} {i : Nat} (hx : i < xs.length) (hy : i < ys.length) : alike xs ys (i + 1) = (alike xs ys i && decide (xs[i] = ys[i])) := by
  unfold alike
  rw [List.take_succ_eq_append_getElem hx, List.take_succ_eq_append_getElem hy, Bool.eq_iff_iff, Bool.and_eq_true, decide_eq_true_iff, decide_eq_true_iff, decide_eq_true_iff]
  constructor
  · rintro ⟨h1, h2⟩
    obtain ⟨h3, h4⟩ := List.append_inj h2 (by simp; omega)
    exact ⟨⟨h1, h3⟩, by simpa using h4⟩
  · rintro ⟨⟨h1, h2⟩, h3⟩
    exact ⟨h1, by rw [h2, h3]⟩
theorem alike_end {xs ys : List Int} {i : Nat} (h : xs.length ≤ i ∨ ys.length ≤ i) : alike xs ys i = decide (xs = ys) := by
  unfold alike
  rw [Bool.eq_iff_iff, decide_eq_true_iff, decide_eq_true_iff]
  constructor
  · rintro ⟨h1, h2⟩
    rwa [List.take_of_length_le (by omega), List.take_of_length_le (by omega)] at h2
  · rintro rfl
    exact ⟨rfl, rfl⟩
end Lv

set_option maxRecDepth 100000 in
set_option maxHeartbeats 4000000 in
theorem metric_walk (w : World) (u v t : Value) (xs ys zs : List Int) (hT : Tabs w) (hu : IntS w u xs) (hv : IntS w v ys) (ht : IntS w t zs) :
    Calls Tryd.prog 4 #[u, v, t] w fun e w' => e = .returned (.bool true) ∧ Below w.heap.size w w' := by
  have HT := Lib.hid hT
  have HU := Lib.hid hu
  have HV := Lib.hid hv
  have HZ := Lib.hid ht
  obtain ⟨a, ca, rfl, ha1, ha2, hcu⟩ := hu
  obtain ⟨b, cb, rfl, hb1, hb2, hcv⟩ := hv
  obtain ⟨c, cc, rfl, hc1, hc2, _⟩ := ht
  have HCU := Lib.hid hcu
  have HCV := Lib.hid hcv
  have HA := Lib.hid (fuzzyAwake_any w hT)
  have HL0 := Lib.hid (Lv.alike_zero xs ys)
  have HLS := Lib.hid (fun i hx hy => Lv.alike_step (xs := xs) (ys := ys) (i := i) hx hy)
  have HLE := Lib.hid (fun i h => Lv.alike_end (xs := xs) (ys := ys) (i := i) h)
  obtain ⟨n, hn⟩ : ∃ n, n = xs.length := ⟨_, rfl⟩
  obtain ⟨m, hm⟩ : ∃ m, m = ys.length := ⟨_, rfl⟩
  obtain ⟨l, hl⟩ : ∃ l, l = zs.length := ⟨_, rfl⟩
  have HN := Lib.hid hn
  have HM := Lib.hid hm
  have HL := Lib.hid hl
  rw [← hn] at HU ⊢
  rw [← hm] at HV ⊢
  rw [← hl] at HZ ⊢
  clear hn hm hl hT ha1 ha2 hb1 hb2 hc1 hc2 hcu hcv
  by_cases hs : n ≤ 40 ∧ m ≤ 40 ∧ l ≤ 40
  · have i1 : ¬ (40 : Int) < (n : Int) := by omega
    have i2 : ¬ (40 : Int) < (m : Int) := by omega
    have i3 : ¬ (40 : Int) < (l : Int) := by omega
    have HP1 : Hid (∀ W, Below w.heap.size w W → Calls Tryd.prog 6 #[.slice a n ca, .slice b m cb] W fun e w' => e = .returned (.int .i64 (Lv.dist xs ys : Nat)) ∧ Below W.heap.size W w') := fun W hb => distP_any W _ _ xs ys (HU.out.below hb (Nat.le_refl _)) (HV.out.below hb (Nat.le_refl _)) (by rw [← HN.out]; omega) (by rw [← HM.out]; omega)
    have HP2 : Hid (∀ W, Below w.heap.size w W → Calls Tryd.prog 6 #[.slice b m cb, .slice c l cc] W fun e w' => e = .returned (.int .i64 (Lv.dist ys zs : Nat)) ∧ Below W.heap.size W w') := fun W hb => distP_any W _ _ ys zs (HV.out.below hb (Nat.le_refl _)) (HZ.out.below hb (Nat.le_refl _)) (by rw [← HM.out]; omega) (by rw [← HL.out]; omega)
    have HP3 : Hid (∀ W, Below w.heap.size w W → Calls Tryd.prog 6 #[.slice a n ca, .slice c l cc] W fun e w' => e = .returned (.int .i64 (Lv.dist xs zs : Nat)) ∧ Below W.heap.size W w') := fun W hb => distP_any W _ _ xs zs (HU.out.below hb (Nat.le_refl _)) (HZ.out.below hb (Nat.le_refl _)) (by rw [← HN.out]; omega) (by rw [← HL.out]; omega)
    have HP4 : Hid (∀ W, Below w.heap.size w W → Calls Tryd.prog 6 #[.slice b m cb, .slice a n ca] W fun e w' => e = .returned (.int .i64 (Lv.dist xs ys : Nat)) ∧ Below W.heap.size W w') := fun W hb => by
      have := distP_any W _ _ ys xs (HV.out.below hb (Nat.le_refl _)) (HU.out.below hb (Nat.le_refl _)) (by rw [← HM.out]; omega) (by rw [← HN.out]; omega)
      rw [Lv.dist_symm ys xs] at this
      exact this
    have HD0 : Hid (decide (Lv.dist xs ys = 0) = decide (xs = ys)) := by
      show _ = _
      rw [Bool.eq_iff_iff, decide_eq_true_iff, decide_eq_true_iff]
      exact Lv.dist_zero
    have hw := Lv.dist_way xs ys zs
    have hmx := Lv.dist_max xs ys
    have hln := Lv.dist_len xs ys
    have hmy := Lv.dist_max ys zs
    have hmz := Lv.dist_max xs zs
    rw [← HN.out, ← HM.out] at hmx hln
    rw [← HM.out, ← HL.out] at hmy
    rw [← HN.out, ← HL.out] at hmz
    generalize Lv.dist xs ys = X at *
    generalize Lv.dist ys zs = Y at *
    generalize Lv.dist xs zs = Z at *
    have l1 : X ≤ 40 := by omega
    have l2 : Y ≤ 40 := by omega
    have l3 : Z ≤ 40 := by omega
    go_enter Tryd.func4, Tryd.ntmps4
    go_wp2_with fail
    refine HA.out.mono ?_
    rintro e w1 ⟨rfl, hb1⟩
    have HB1 := Lib.hid hb1
    have HQ1 := Lib.hid (HP1.out w1 hb1)
    clear hb1
    go_wp2_with fail
    refine HQ1.out.mono ?_
    rintro e w2 ⟨rfl, hb2⟩
    have HB2 : Hid (Below w.heap.size w w2) := HB1.out.trans (hb2.mono HB1.out.size)
    have HQ2 := Lib.hid (HP2.out w2 HB2.out)
    clear hb2
    go_wp2_with fail
    refine HQ2.out.mono ?_
    rintro e w3 ⟨rfl, hb3⟩
    have HB3 : Hid (Below w.heap.size w w3) := HB2.out.trans (hb3.mono HB2.out.size)
    have HQ3 := Lib.hid (HP3.out w3 HB3.out)
    clear hb3
    go_wp2_with fail
    refine HQ3.out.mono ?_
    rintro e w4 ⟨rfl, hb4⟩
    have HB4 : Hid (Below w.heap.size w w4) := HB3.out.trans (hb4.mono HB3.out.size)
    clear hb4
    go_wp2_with fail
    go_loopg [10, 11] (min n m) (fun g s10 s11 wx => ∃ i : Nat, i ≤ min n m ∧ g = min n m - i ∧ s10 = .bool (Lv.alike xs ys i) ∧ s11 = .int .i64 (i : Int) ∧ Hid (Below w.heap.size w wx))
    case atStart => exact ⟨0, Nat.zero_le _, rfl, by rw [HL0.out, ← HN.out, ← HM.out]; by_cases h : n = m <;> simp [h] <;> omega, rfl, HB4⟩
    case round =>
      clear HB4
      obtain ⟨i, hi, rfl, rfl, rfl, hbel⟩ := hrel
      by_cases hin : i < min n m
      · have j1 : (i : Int) < (n : Int) := by omega
        have j2 : (i : Int) < (m : Int) := by omega
        have kx : i < xs.length := by rw [← HN.out]; omega
        have ky : i < ys.length := by rw [← HM.out]; omega
        obtain ⟨g1, o1, rfl, hg1, hcu⟩ := HCU.out (by omega)
        obtain ⟨g2, o2, rfl, hg2, hcv⟩ := HCV.out (by omega)
        have c1 := (hbel.out.cell (p := ⟨g1, o1 + i, none⟩) hg1).trans (hcu i kx)
        have c2 := (hbel.out.cell (p := ⟨g2, o2 + i, none⟩) hg2).trans (hcv i ky)
        have HST := Lib.hid (HLS.out i kx ky)
        clear hcu hcv
        generalize xs[i] = x at *
        generalize ys[i] = y at *
        cases hal : Lv.alike xs ys i
        case' false =>
          have hf : Hid (Lv.alike xs ys (i + 1) = false) := by show _ = _; rw [HST.out, hal]; rfl
          clear HST c1 c2
          go_wp2_with fail
          go_quiet (fail)
        case' true =>
          obtain ⟨bb, hbb⟩ : ∃ bb, (x == y) = bb := ⟨_, rfl⟩
          have hf : Hid (Lv.alike xs ys (i + 1) = bb) := by
            show _ = _
            rw [HST.out, hal, ← hbb]
            by_cases h : x = y <;> simp [h]
          have hdd : decide (x = y) = bb := by rw [← hbb]; by_cases h : x = y <;> simp [h]
          clear HST
          go_wp2_with fail
          go_quiet (fail)
        all_goals
          go_wp2_with fail
          go_roundg (min n m - (i + 1))
          case rel => exact ⟨i + 1, by omega, rfl, by rw [hf.out], by go_num, by first | exact hbel | exact belowN hbel.out _⟩
          case measure => omega
      · obtain rfl : i = min n m := by omega
        have hend : Hid (Lv.alike xs ys (min n m) = decide (xs = ys)) := HLE.out _ (by rw [← HN.out, ← HM.out]; omega)
        have HD1 : Hid (decide (X = 0) = Lv.alike xs ys (min n m)) := by show _ = _; rw [HD0.out, hend.out]
        have HQ4 := Lib.hid (HP4.out wr hbel.out)
        generalize Lv.alike xs ys (min n m) = sm at *
        obtain ⟨q, hq⟩ : ∃ q, q = min n m := ⟨_, rfl⟩
        have hqx : ((X : Int) == 0) = sm := by
          rw [← HD1.out]
          by_cases h : X = 0 <;> simp [h]
        have hxor : (sm != sm) = false := by cases sm <;> rfl
        obtain ⟨mx, hmx2⟩ : ∃ mx : Nat, mx = max n m := ⟨_, rfl⟩
        have e1 : max (n : Int) (m : Int) = (mx : Int) := by omega
        have j3 : ¬ (X : Int) + (Y : Int) < (Z : Int) := by omega
        have j4 : ¬ (mx : Int) < (X : Int) := by omega
        have j5 : (n : Int) - (m : Int) ≤ (X : Int) := by omega
        have j6 : (m : Int) - (n : Int) ≤ (X : Int) := by omega
        rw [← hq] at hi ⊢
        have j7 : ¬ ((q : Int) < (n : Int) ∧ (q : Int) < (m : Int)) := by omega
        clear HD0 HD1 hend hw hmx hln hmy hmz
        by_cases hqn : q < n
        · have k1 : (q : Int) < (n : Int) := by omega
          have k2 : ¬ (q : Int) < (m : Int) := by omega
          clear j7 hmx2 hq
          go_wp2_with fail
          refine HQ4.out.mono ?_
          rintro e w5 ⟨rfl, hb5⟩
          have HB5 : Hid (Below w.heap.size w w5) := hbel.out.trans (hb5.mono hbel.out.size)
          clear hb5
          go_wp2_with fail
          go_ret
          exact ⟨rfl, HB5.out⟩
        · have k1 : ¬ (q : Int) < (n : Int) := by omega
          clear j7 hmx2 hq
          go_wp2_with fail
          refine HQ4.out.mono ?_
          rintro e w5 ⟨rfl, hb5⟩
          have HB5 : Hid (Below w.heap.size w w5) := hbel.out.trans (hb5.mono hbel.out.size)
          clear hb5
          go_wp2_with fail
          go_ret
          exact ⟨rfl, HB5.out⟩
  · have hway : (40 : Int) < (n : Int) ∨ (¬ (40 : Int) < (n : Int) ∧ (40 : Int) < (m : Int)) ∨ (¬ (40 : Int) < (n : Int) ∧ ¬ (40 : Int) < (m : Int) ∧ (40 : Int) < (l : Int)) := by omega
    clear hs HCU HCV HL0 HLS HLE
    rcases hway with i1 | ⟨i1, i2⟩ | ⟨i1, i2, i3⟩
    all_goals
      go_enter Tryd.func4, Tryd.ntmps4
      go_wp2_with fail
      refine HA.out.mono ?_
      rintro e w1 ⟨rfl, hb1⟩
      have HB1 := Lib.hid hb1
      have HA1 := Lib.hid (fuzzyAwake_any w1 (HT.out.below hb1))
      clear hb1
      go_wp2_with fail
      refine HA1.out.mono ?_
      rintro e w2 ⟨rfl, hb2⟩
      have HB2 : Hid (Below w.heap.size w w2) := HB1.out.trans (hb2.mono HB1.out.size)
      clear hb2
      go_wp2_with fail
      go_ret
      exact ⟨rfl, HB2.out⟩
end Go.Proofs.YthhfmcikfdagiaaDoor

/-
  What the cards' frames share: arguments opened, their bulk, the witness's world, the library's listed tables.
-/
namespace Go.Proofs.YthhfmcikfdagiaaDoor.frame5
open Go.ChangeShapes Go.WideShapes Go.ChangeAt Go.RowKit Go.Lib
open Go.ChangeMaps (open_string shut_string)

theorem own : ownKnob Tryd.prog.godebug = none := by kernel_rfl
theorem laidOut : laidOutB Tryd.prog = true := by kernel_rfl

theorem one_le {H : Type} (d : DataW H) : 1 ≤ Rows.uptoBulk d := by
  cases d with
  | lit l => cases l <;> simp [Rows.uptoBulk]
  | nil => simp [Rows.uptoBulk]
  | ptr d => simp [Rows.uptoBulk]
  | slice elems spare => simp [Rows.uptoBulk]
  | agg parts => simp [Rows.uptoBulk]
  | iface t d => simp [Rows.uptoBulk]
  | map entries => simp [Rows.uptoBulk]
  | held h => simp [Rows.uptoBulk]
theorem length_le {H : Type} (l : List (DataW H)) : l.length ≤ Rows.uptoBulkAll l := by
  induction l with
  | nil => simp [Rows.uptoBulkAll]
  | cons x r ih => have := one_le x; simp only [Rows.uptoBulkAll, List.length_cons]; omega
theorem slice_elems {H : Type} (elems spare : List (DataW H)) : Rows.uptoBulkAll elems + 1 ≤ Rows.uptoBulk (.slice elems spare) := by
  simp only [Rows.uptoBulk]
  omega
def Wf5 (zs : List Int) : Prop := ∀ z ∈ zs, -9223372036854775808 ≤ z ∧ z ≤ 9223372036854775807
/-- What a walk is told of a slice of numbers that came in. -/
structure InS (w : World) (v : Value) (zs : List Int) : Prop where
  ints : IntS w v zs
  wf : Wf5 zs
  nilOr : v = .slice none 0 0 ∨ ∃ x l c, v = .slice (some x) l c
theorem ints_of {H : Type} {enc : TypeId × Value → H} {W : World} {t e : TypeId} {a : Option Addr} {len cap : Nat} {d : DataW H} {p : List MemPlace} (ht : Tryd.prog.underlying t = some (.slice e)) (he : Tryd.prog.underlying e = some (.int .i64)) (hc : Tryd.prog.cellsOf e = 1)
    (h : DataW.Trod enc Tryd.prog W 0 (fun _ => true) true t (.slice a len cap) d p) : ∃ zs, InS W (.slice a len cap) zs ∧ zs.length + 1 ≤ Rows.uptoBulk d ∧ (zs = [] ∨ ∃ elems spare, d = .slice elems spare ∧ zs.length ≤ elems.length) := by
  obtain ⟨fuel, hf⟩ := h
  rcases open_ints ht he hc hf with ⟨hcs, hx⟩ | ⟨x, l, c, zs, hcs, _, hl, hm, hz, hx, hcell, hwz⟩
  · simp [Value.cells] at hcs
    obtain ⟨rfl, rfl, rfl⟩ := hcs
    exact ⟨[], ⟨⟨none, 0, rfl, Nat.le_refl _, by omega, fun h => by simp at h⟩, fun z hz => absurd hz List.not_mem_nil, .inl rfl⟩, by have := one_le d; simp; omega, .inl rfl⟩
  · simp [Value.cells] at hcs
    obtain ⟨rfl, rfl, rfl⟩ := hcs
    simp only [if_true] at hz
    have hd : d = .slice (lits .i64 (zs.take len)) (lits .i64 (zs.drop len)) := congrArg Prod.fst hx
    have hle : len ≤ (lits (H := H) .i64 (zs.take len)).length := by simp [lits]; omega
    have hzt : (zs.take len).length = len := by rw [List.length_take]; omega
    have hspot : 0 < len → ∃ b off, x = ⟨b, off, none⟩ ∧ b < W.heap.size := by
      intro h0
      obtain ⟨b, off, spot⟩ := x
      have hc0 := hcell 0 (by omega)
      have hspot : spot = none := by simpa [Addr.add] using World.cell?_spot hc0
      subst hspot
      exact ⟨b, off, rfl, World.block_lt_of_cell? W _ hc0⟩
    refine ⟨zs.take len, ⟨⟨some x, cap, by rw [hzt], by omega, by unfold maxLen at hm; omega, fun h0 => ?_⟩, fun z hz => ?_, .inr ⟨_, _, _, rfl⟩⟩, ?_, .inr ⟨_, _, hd, by rw [hzt]; exact hle⟩⟩
    · obtain ⟨b, off, rfl, hb⟩ := hspot (by omega)
      refine ⟨b, off, rfl, hb, fun j hj => ?_⟩
      have hj' : j < zs.length := by omega
      have := hcell j hj'
      rw [show (⟨b, off, none⟩ : Addr).add j = ⟨b, off + j, none⟩ from by unfold Addr.add; split <;> simp_all] at this
      rw [this, List.getElem_take]
      simp [List.getD, List.getElem?_eq_getElem hj']
    · exact bounds_i64 (hwz z (List.mem_of_mem_take hz))
    · have h1 := length_le (lits (H := H) .i64 (zs.take len))
      have h2 := slice_elems (lits (H := H) .i64 (zs.take len)) (lits (H := H) .i64 (zs.drop len))
      rw [hd, hzt]
      omega

/-- A block's cells in the place of what it holds. -/
def cellsIn (cs : Array Value) : Obj → Obj
  | .cells _ t frozen => .cells cs t frozen
  | o => o
/-- The world of a witness: the listed variables hold what their text lays. -/
noncomputable def laidWorld (os : Os) : World :=
  { World.holding Tryd.prog os ⟨#[], #[], []⟩ with heap := ((World.holding Tryd.prog os ⟨#[], #[], []⟩).heap.modify 0 (cellsIn (Go.Pinned.utf8FirstZ.map fun (n : Nat) => Value.int .u8 (n : Int)).toArray)).modify 1 (cellsIn (#[128, 191, 160, 191, 128, 159, 144, 191, 128, 143, 0, 0, 0, 0, 0, 0, 0, 0, 0, 0, 0, 0, 0, 0, 0, 0, 0, 0, 0, 0, 0, 0].map fun (n : Int) => Value.int .u8 n)) }
/-- What the rows list. -/
def listed : List (String × DataW Unit) := [("unicode/utf8.acceptRanges", Rows.laid_unicode_utf8_acceptRanges), ("unicode/utf8.first", Rows.laid_unicode_utf8_first)]
theorem accept_eq : Rows.laid_unicode_utf8_acceptRanges (H := Unit) = acceptData := by kernel_rfl
theorem first_eq : Rows.laid_unicode_utf8_first = firstData := Pinned.utf8First_eq
theorem tabs_of {W : World} (hL : laidMet Tryd.prog listed W) : Tabs W := by
  unfold listed at hL
  rw [accept_eq, first_eq] at hL
  exact utf8Tabs_of_readsT (U8Types.of196 Tryd.lays196) ⟨by kernel_rfl, by kernel_rfl, by kernel_rfl, by kernel_rfl, by kernel_rfl, by kernel_rfl, by kernel_rfl⟩ (Lib.laidMet.reads hL (.tail _ (.head _))) (Lib.laidMet.reads hL (.head _))
end Go.Proofs.YthhfmcikfdagiaaDoor.frame5
