/-
  What Tokens answers: the terms of a text at their places, in new memory, or the refusal.
-/
import Derived.Test.YtedloedfbegbkaaDoorTt
import Derived.Test.YtedloedfbegbkaaDoorTs
namespace Go.Proofs.YtedloedfbegbkaaDoor
open Go.RowKit

namespace Ut
theorem allW_ahead (l : List Int) : allW ((l.take (ahead l)).map fold) = true := by
  rw [take_ahead, allW_iff]
  intro c hc
  obtain ⟨x, hx, rfl⟩ := List.mem_map.1 hc
  have := List.all_eq_true.1 (List.all_takeWhile (p := letter) (l := l)) x hx
  exact whole_fold x (letter_whole x this).1
theorem terms_nil : terms [] = [] := rfl
theorem terms_skip (l : List Int) (hne : l ≠ []) (h : ahead l = 0) : terms l = terms (l.drop 1) := by
  unfold terms
  rw [rows_skip l hne h]
theorem terms_take (l : List Int) (h : 0 < ahead l) : terms l = term (l.take (ahead l)) :: terms (l.drop (ahead l)) := by
  unfold terms
  rw [rows_take l h, List.map_cons]
theorem tokE_long {s : List UInt8} (h : 4096 < s.length) : tokE s = 4 := if_pos h
theorem tokE_bad {s : List UInt8} (h : ¬ 4096 < s.length) (hv : Go.Lib.validD s = false) : tokE s = 7 := by
  unfold tokE
  rw [if_neg h, if_neg (by rw [hv]; exact Bool.false_ne_true)]
theorem tokE_far {s : List UInt8} (h : ¬ 4096 < s.length) (hv : Go.Lib.validD s = true) (t : List UInt8) (ht : t ∈ terms (dec s)) (hs : ¬ short t = true) : tokE s = 4 := by
  unfold tokE
  rw [if_neg h, if_pos hv, if_neg (fun ha => hs (List.all_eq_true.1 ha t ht))]
theorem tokS_far {s : List UInt8} {n : Int} (h : tokE s = n) (hn : n ≠ 0) : tokS s = [] := tokS_no (by rw [h]; exact hn)
end Ut

/-- What Tokens answers. -/
def TokPost (w : World) (l : List UInt8) (e : Ending) (w' : World) : Prop :=
  ∃ v, e = .returned (.tuple #[v, .int .i64 (Ut.tokE l)]) ∧ OwnT w' w.heap.size v (Ut.toks (Ut.tokS l)) ∧ Below w.heap.size w w'
theorem OwnT.base {w : World} {B C : Nat} {v : Value} {l : List Ut.Tk} (h : OwnT w B v l) (hC : C ≤ B) : OwnT w C v l := by
  refine ⟨h.1, ?_⟩
  rcases h.2 with h1 | ⟨g, cap, cur, h1, hg, hr⟩
  · exact .inl h1
  · exact .inr ⟨g, cap, cur, h1, Nat.le_trans hC hg, hr⟩
theorem ownT_nil (w : World) (B : Nat) : OwnT w B (.slice none 0 0) [] := World.ownsRow_nil _ _ _ _

/-- A part of a slice of numbers. -/
theorem ints_part {w : World} {g p q c n : Nat} {L : List Int} (hcell : ∀ j (_ : j < L.length), w.cell? ⟨g, j, none⟩ = some (.int .i64 L[j])) (hg : g < w.heap.size) (hq : p + q = L.length) (hn : n ≤ q) (hc : n ≤ c) (hc2 : c ≤ 9223372036854775807) :
    IntS w (.slice (some ⟨g, p, none⟩) n c) ((L.drop p).take n) := by
  have hl : ((L.drop p).take n).length = n := by rw [List.length_take, List.length_drop]; omega
  refine ⟨_, c, by rw [hl], by omega, hc2, fun h0 => ⟨g, p, rfl, hg, fun j hj => ?_⟩⟩
  rw [hl] at hj
  rw [hcell (p + j) (by omega)]
  simp

set_option maxRecDepth 100000 in
set_option maxHeartbeats 4000000 in
theorem tokens_any (w : World) (s : ByteArray) (hT : Tabs w) : Calls Tryd.prog 6 #[.string s] w (TokPost w s.data.toList) := by
  have hsl : s.data.toList.length = s.size := by simp
  by_cases hbig : 4096 < s.size
  · have i1 : (4096 : Int) < (s.size : Int) := by omega
    have hE := Ut.tokE_long (s := s.data.toList) (by omega)
    have hS := Lib.hid (Ut.tokS_far hE (by omega))
    have HE := Lib.hid hE
    clear hE hsl hT
    go_enter Tryd.func6, Tryd.ntmps6
    go_wp2_with fail
    go_ret2
    exact ⟨_, ret_vi (by rw [HE.out]), by rw [hS.out]; exact ownT_nil _ _, Below.refl _ _⟩
  · have i1 : ¬ (4096 : Int) < (s.size : Int) := by omega
    have hd := decode_any w s hT (by omega)
    unfold DecPost at hd
    cases hv : Lib.validD s.data.toList
    · have hE := Ut.tokE_bad (s := s.data.toList) (by omega) hv
      have hS := Lib.hid (Ut.tokS_far hE (by omega))
      have HE := Lib.hid hE
      rw [Ut.decE_no hv] at hd
      have HD := Lib.hid hd
      clear hE hsl hT hd hv
      go_enter Tryd.func6, Tryd.ntmps6
      go_wp2_with fail
      refine HD.out.mono ?_
      rintro e w1 ⟨v, rfl, _, hb⟩
      have HB := Lib.hid hb
      clear hb
      go_wp2_with fail
      go_ret2
      exact ⟨_, ret_vi (by rw [HE.out]), by rw [hS.out]; exact ownT_nil _ _, HB.out⟩
    · rw [Ut.decE_yes hv, Ut.decS_yes hv] at hd
      have HD := Lib.hid hd
      have HV := Lib.hid hv
      have hln := Ut.dec_length s.data.toList.length s.data.toList
      have HL : Hid (¬ 4096 < s.data.toList.length) := by show ¬ _; omega
      have hLn : (Ut.dec s.data.toList).length ≤ 4096 := by unfold Ut.dec; omega
      have HX : Hid (∀ L : List Int, L = Ut.dec s.data.toList → True) := fun _ _ => trivial
      obtain ⟨L, hL⟩ : ∃ L, L = Ut.dec s.data.toList := ⟨_, rfl⟩
      have HLe := Lib.hid hL
      rw [← hL] at HD hLn
      clear hd hv hsl hT hln HX hL
      go_enter Tryd.func6, Tryd.ntmps6
      go_wp2_with fail
      refine HD.out.mono ?_
      rintro e w1 ⟨v, rfl, hown, hb⟩
      have HB := Lib.hid hb
      have HO := Lib.hid hown
      have hI := hown.ints (by omega)
      obtain ⟨a0, c0, hv0, hc0, hc0', hcl0⟩ := hI
      obtain ⟨g0, hg0⟩ : ∃ g0 : Nat, 0 < L.length → a0 = some ⟨g0, 0, none⟩ ∧ g0 < w1.heap.size ∧ ∀ j (_ : j < L.length), w1.cell? ⟨g0, j, none⟩ = some (.int .i64 L[j]) := by
        obtain ⟨a1, cp1, h1, h2⟩ := ownI_cells hown
        rw [hv0] at h1
        simp only [Value.slice.injEq] at h1
        by_cases h0 : 0 < L.length
        · obtain ⟨g, h3, h4, h5⟩ := h2 h0
          exact ⟨g, fun _ => ⟨h1.1.trans h3, h4, h5⟩⟩
        · exact ⟨0, fun h => absurd h h0⟩
      subst hv0
      have HG := Lib.hid hg0
      clear hb hown HD hcl0 hg0 HO
      obtain ⟨n, hn⟩ : ∃ n, n = L.length := ⟨_, rfl⟩
      have HN := Lib.hid hn
      rw [← hn] at hLn hc0 ⊢
      clear hn
      go_wp2_with fail
      go_loopg [4, 6] n (fun gg lv tv wx => ∃ (p q c : Nat) (a : Option Addr) (acc : List (List UInt8)), p + q = n ∧ gg = q ∧ lv = .slice a q c ∧ (0 < q → a = some ⟨g0, p, none⟩) ∧ q ≤ c ∧ c ≤ 9223372036854775807 ∧ acc.length ≤ p ∧
        Hid (acc ++ Ut.terms (L.drop p) = Ut.terms L) ∧ Hid (acc.all Ut.short = true) ∧ OwnT wx w1.heap.size tv (Ut.toks acc) ∧ Below w1.heap.size w1 wx)
      case atStart => exact ⟨0, n, c0, a0, [], by omega, rfl, rfl, fun h => (HG.out (by rw [← HN.out]; exact h)).1, by omega, by omega, by simp, by show _ = _; simp, rfl, ownT_nil _ _, Below.refl _ _⟩
      case round =>
        obtain ⟨p, q, c, a, acc, hpq, rfl, rfl, ha, hqc, hc2, hal, hS, hA, hown, hb1⟩ := hrel
        by_cases hq : 0 < gk
        · obtain rfl := ha hq
          clear ha
          have i2 : (0 : Int) < (gk : Int) := by omega
          have hg1 := (HG.out (by rw [← HN.out]; omega)).2.1
          have hcell := (HG.out (by rw [← HN.out]; omega)).2.2
          have HC : Hid (∀ wx, Below w1.heap.size w1 wx → ∀ m, m ≤ gk → IntS wx (.slice (some ⟨g0, p, none⟩) m c) ((L.drop p).take m)) := fun wx hb m hm =>
            ints_part (fun j hj => (hb.cell (p := ⟨g0, j, none⟩) hg1).trans (hcell j hj)) (Nat.lt_of_lt_of_le hg1 hb.size) (by rw [← HN.out]; exact hpq) hm (by omega) hc2
          have hfull : (L.drop p).take gk = L.drop p := List.take_of_length_le (by rw [List.length_drop, ← HN.out]; omega)
          have hAh := ahead_any wr _ _ (by have := HC.out wr hb1 gk (Nat.le_refl _); rw [hfull] at this; exact this)
          have hle := Ut.ahead_le (L.drop p)
          rw [List.length_drop, ← HN.out] at hle
          have hne : L.drop p ≠ [] := fun h => by
            have := congrArg List.length h
            rw [List.length_drop, ← HN.out] at this
            simp at this
            omega
          have hsk := Ut.terms_skip (L.drop p) hne
          have htk := Ut.terms_take (L.drop p)
          have hwl := Ut.allW_ahead (L.drop p)
          generalize hm : Ut.ahead (L.drop p) = m at *
          have HAh := Lib.hid hAh
          clear hAh hne hcell hfull hm
          have HO := Lib.hid hown
          have HBB := Lib.hid hb1
          have HW : Hid (∀ wx, Below w1.heap.size w1 wx → Below w.heap.size w wx) := fun wx hb => HB.out.trans (hb.mono HB.out.size)
          clear hown hb1
          by_cases hm0 : m = 0
          · subst hm0
            have hS2 : Hid (acc ++ Ut.terms (L.drop (p + 1)) = Ut.terms L) := by show _ = _; rw [← hS.out, hsk rfl, List.drop_drop]
            clear hsk htk hwl hS
            go_wp2_with fail
            refine HAh.out.mono ?_
            rintro e w2 ⟨rfl, rfl⟩
            go_wp2_with fail
            all_goals (go_roundg (gk - 1); (case rel => exact ⟨p + 1, gk - 1, _, _, acc, by omega, rfl, rfl, fun h => by first | rfl | omega, by omega, by omega, by omega, hS2, hA, HO.out, HBB.out⟩); (case measure => omega))
          · have hmp : 0 < m := by omega
            have i3 : ¬ (m : Int) = 0 := by omega
            have i4 : (m : Int) ≤ (c : Int) := by omega
            have htk2 := htk hmp
            have htm := termOf_any wr _ _ (HC.out wr HBB.out m (by omega)) (by rw [List.length_take, List.length_drop]; omega) hwl
            unfold Ut.trmE Ut.trmS at htm
            rw [htk2] at hS
            rw [List.drop_drop] at hS
            generalize Ut.term ((L.drop p).take m) = t at *
            clear hsk htk htk2 hwl hm0 HC
            cases hsh : Ut.short t
            · rw [hsh, if_neg Bool.false_ne_true, if_neg Bool.false_ne_true] at htm
              have htin : t ∈ Ut.terms L := by rw [← hS.out]; simp
              rw [HLe.out] at htin
              have hE := Ut.tokE_far HL.out HV.out t htin (by rw [hsh]; exact Bool.false_ne_true)
              have hSn := Lib.hid (Ut.tokS_far hE (by omega))
              have HE := Lib.hid hE
              have HTm := Lib.hid htm
              clear hE htin htm hS hA hsh
              go_wp2_with fail
              refine HAh.out.mono ?_
              rintro e w2 ⟨rfl, rfl⟩
              go_wp2_with fail
              refine HTm.out.mono ?_
              rintro e w3 ⟨rfl, hb3⟩
              have HB3 : Hid (Below w.heap.size w w3) := HW.out _ (HBB.out.trans (hb3.mono HBB.out.size))
              clear hb3
              go_wp2_with fail
              go_ret2
              exact ⟨_, ret_vi (by rw [HE.out]), by rw [hSn.out]; exact ownT_nil _ _, HB3.out⟩
            · rw [hsh, if_pos rfl, if_pos rfl] at htm
              have hA2 : Hid ((acc ++ [t]).all Ut.short = true) := by show _ = _; rw [List.all_append, hA.out]; simp [hsh]
              have hS2 : Hid ((acc ++ [t]) ++ Ut.terms (L.drop (p + m)) = Ut.terms L) := by show _ = _; rw [← hS.out, List.append_assoc]; rfl
              have HTm := Lib.hid htm
              clear htm hS hA hsh
              obtain ⟨g6, a6, c6, rfl, _, _, _, _, _⟩ := HO.out.opened
              rw [Ut.toks_length] at HO
              rw [Ut.toks_length]
              go_wp2_with fail
              refine HAh.out.mono ?_
              rintro e w2 ⟨rfl, rfl⟩
              go_wp2_with fail
              refine HTm.out.mono ?_
              rintro e w3 ⟨rfl, hb3⟩
              have HO3 := Lib.hid (HO.out.keep hb3 (Nat.le_refl _))
              have HB3 : Hid (Below w1.heap.size w1 w3) := HBB.out.trans (hb3.mono HBB.out.size)
              have HZ := Lib.hid HB3.out.size
              clear hb3
              go_wp2_with (at_builtin; go_loud ((refine wpList_pushT rfl _ _ rfl w1.heap.size HZ.out (.slice a6 acc.length c6) (Ut.toks acc) ⟨t.toArray⟩ (acc.length : Int) rfl HO3.out rfl (by rw [Ut.toks_length]; omega) ?_; intro v5 w5 hown5 hb5 hg5)))
              all_goals ((have HO5 : Hid (OwnT w5 w1.heap.size v5 (Ut.toks (acc ++ [t]))) := by show OwnT _ _ _ _; rw [Ut.toks_snoc]; exact hown5); have HB5 : Hid (Below w1.heap.size w1 w5) := HB3.out.trans hb5; clear hown5 hb5 hg5; go_roundg (gk - m); (case rel => exact ⟨p + m, gk - m, _, _, acc ++ [t], by omega, rfl, rfl, fun h => by first | rfl | omega, by omega, by omega, by simp; omega, hS2, hA2, HO5.out, HB5.out⟩); (case measure => omega))
        · have i2 : ¬ (0 : Int) < (gk : Int) := by omega
          have hdr : L.drop p = [] := List.drop_of_length_le (by rw [← HN.out]; omega)
          rw [hdr] at hS
          have hacc : acc = Ut.terms L := by have := hS.out; rw [Ut.terms_nil, List.append_nil] at this; exact this
          have hE : Ut.tokE s.data.toList = 0 := Ut.tokE_of (by have := HL.out; omega) HV.out (by rw [← HLe.out, ← hacc]; exact hA.out)
          have hfin : Hid (Ut.tokS s.data.toList = acc) := by show _ = _; rw [(Ut.tokE_ok hE).2.2.2, ← HLe.out, hacc]
          have HE := Lib.hid hE
          have HO5 : Hid (OwnT wr w.heap.size u6 (Ut.toks acc)) := hown.base HB.out.size
          have HB5 : Hid (Below w.heap.size w wr) := HB.out.trans (hb1.mono HB.out.size)
          clear hdr hS hacc hE hA hown hb1
          go_wp2_with fail
          go_ret2
          exact ⟨_, ret_vi (by rw [HE.out]), by rw [hfin.out]; exact HO5.out, HB5.out⟩
end Go.Proofs.YtedloedfbegbkaaDoor
