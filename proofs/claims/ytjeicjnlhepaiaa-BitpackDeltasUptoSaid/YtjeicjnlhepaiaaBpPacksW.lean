/-
  Every list of numbers has the bytes that the document says, and the list stays: the walk of the statement, over what is asked of Pack and Read.
-/
import Derived.Test.YtjeicjnlhepaiaaBpBackW
import Derived.Laws.AppendOwnNone
namespace Go.Proofs.Ytjeicjnlhepaiaa
open Go.RowKit

theorem ownI_old {w wr w1 : World} {B : Nat} {v v' : Value} {r : List Int} (hB : B ≤ wr.heap.size) (hown : wr.ownsRow B 3 1 v 0 []) (hb : Below B w wr)
    (h1 : w1.ownsRow B 3 1 v' (0 + r.length) ([] ++ intsV r)) (hg : wr.grownBy w1 v.ownBlock) :
    OwnI w1 B v' r ∧ Below B w w1 := by
  refine ⟨?_, hb.grown hg hB (fun j hj => (hown.lt j hj).1)⟩
  unfold OwnI
  simpa using h1

theorem news_77 (w1 : World) : ∀ j u, [Value.int .i64 77][j]? = some u → (w1.alloc (.cells #[.int .i64 77] 3)).cell? ((⟨w1.heap.size, 0, none⟩ : Addr).add j) = some u := by
  intro j u hj
  match j, hj with
  | 0, hj => simp at hj; subst hj; simp [Addr.add]
theorem one_77 : ∀ u ∈ [Value.int .i64 77], u.oneCell' = true := by
  intro u hu
  simp at hu
  subst hu
  rfl
/-- A list with one number more behind it: the slice of the list, and the number. -/
theorem in_split {w : World} {B : Nat} {v : Value} {zs : List Int} {c : Int} (h : OwnI w B v (zs ++ [c])) : ∃ g cap, v = .slice (some ⟨g, 0, none⟩) (zs.length + 1) cap ∧ zs.length + 1 ≤ cap ∧ cap ≤ 9223372036854775807 ∧ g < w.heap.size ∧ w.cell? ⟨g, zs.length, none⟩ = some (.int .i64 c) ∧ IntS w (.slice (some ⟨g, 0, none⟩) zs.length cap) zs := by
  have hl : (zs ++ [c]).length = zs.length + 1 := by simp
  rcases h.2 with ⟨h1, h2⟩ | ⟨g, cap, cur, rfl, hg, hh, hnc, hcp, hcs, htake⟩
  · omega
  · have hown : w.ownsRow B 3 1 (.slice (some ⟨g, 0, none⟩) (zs ++ [c]).length cap) (zs ++ [c]).length (intsV (zs ++ [c])) := h
    unfold maxLen at hcp
    have hcell : ∀ j (hj : j < (zs ++ [c]).length), w.cell? ⟨g, j, none⟩ = some (.int .i64 (zs ++ [c])[j]) := fun j hj => by
      rw [hown.cellAt j (by omega)]
      show (intsV (zs ++ [c]))[j]? = _
      unfold intsV
      rw [List.getElem?_map, List.getElem?_eq_getElem hj]
      rfl
    refine ⟨g, cap, by rw [hl], by omega, by omega, (hown.lt g rfl).2, ?_, ⟨_, cap, rfl, by omega, by omega, fun _ => ⟨g, 0, rfl, (hown.lt g rfl).2, fun j hj => ?_⟩⟩⟩
    · rw [hcell zs.length (by omega)]
      simp
    · rw [Nat.zero_add, hcell j (by omega), List.getElem_append_left hj]

set_option maxRecDepth 100000 in
set_option maxHeartbeats 2000000 in
theorem packs_some (hP : PackC) (hR : ReadC) (x : Addr) (len cap : Nat) (zs : List Int) (w : World) (hv : IntS w (.slice (some x) len cap) zs) (hzl : zs.length = len)
    (hc : ∀ j u, (intsV zs)[j]? = some u → w.cell? (x.add j) = some u ∧ (x.add j).block < w.heap.size) (hwf : Wf zs) (hlen : len ≤ 1048576) :
    Calls Try.prog 3 #[.slice (some x) len cap] w fun e w' => e = .returned (.bool true) ∧ Below w.heap.size w w' := by
  obtain ⟨ii, hi, hz0, hz1, hz2⟩ := info_parts Try.infoI
  have L0 := World.ownsRow_lit (e := 3) (size := 1) w #[] 0 (Nat.le_refl _) (by unfold maxLen; omega) rfl
  have LB : Below w.heap.size w (w.alloc (.cells #[] 3)) := (Below.refl _ _).alloc (Nat.le_refl _) _
  have A2 : ∀ j u, (intsV zs)[j]? = some u → (w.alloc (.cells #[] 3)).cell? (x.add j) = some u := by
    intro j u hj
    obtain ⟨h1, h2⟩ := hc j u hj
    exact (LB.cell h2).trans h1
  have A1 : (intsV zs).length = len * 1 := by rw [intsV_length, hzl, Nat.mul_one]
  have A3 : ∀ u ∈ intsV zs, u.oneCell' = true := by
    intro u hu
    obtain ⟨x, _, rfl⟩ := List.mem_map.1 hu
    rfl
  have HA := Lib.hid (And.intro L0 (And.intro LB (And.intro A1 (And.intro A2 A3))))
  have HV := Lib.hid hv
  have HW := Lib.hid hwf
  have HZ := Lib.hid hzl
  clear L0 LB A1 A2 A3 hv hwf hc hzl
  go_enter Try.func3, Try.ntmps3
  go_wp2_with (at_builtin; first
    | (refine wpList_append_own _ rfl _ _ 22 rfl w.heap.size 3 ii (.int .i64 0) 1 8 Try.underlying22 hi hz0 hz1 hz2 rfl (by decide) _ _ _ rfl (HO1.out.1.alloc _) ⟨w1.heap.size, 0, none⟩ 1 1 [.int .i64 77] rfl rfl (news_77 w1) one_77 (by unfold maxLen; omega) (by omega) (by have := HO1.out.2.2.2; simp; omega) ?_; intro v2 w2 hown2 hg2 _; have HO2 := Lib.hid (ownI_push HO1.out.2.2.2 HO1.out.2.1 HO1.out.2.2.1 (by rw [HZ.out]; exact hown2) hg2); clear hown2 hg2; obtain ⟨g, cap2, rfl, hcp1, hcp2, hgl, hc77, hin⟩ := in_split HO2.out.1; rw [HZ.out] at hcp1 hc77 hin ⊢; have HI := Lib.hid (And.intro hin hc77); clear hin hc77)
    | (refine wpList_append_own _ rfl _ _ 22 rfl w.heap.size 3 ii (.int .i64 0) 1 8 Try.underlying22 hi hz0 hz1 hz2 rfl (by decide) _ _ _ rfl HA.out.1 x len cap (intsV zs) rfl HA.out.2.2.1 HA.out.2.2.2.1 HA.out.2.2.2.2 (by unfold maxLen; omega) (by omega) (by simp) ?_; intro v1 w1 hown1 hg1 _; have hownA : w1.ownsRow w.heap.size 3 1 v1 len (intsV zs) := (by simpa using hown1); have HR := ownI_old (r := zs) (by simp) HA.out.1 HA.out.2.1 (by rw [HZ.out]; exact hown1) hg1; have HO1 := Lib.hid (And.intro hownA (And.intro HR.1 (And.intro HR.2 HR.2.size))); clear hown1 hg1 hownA HR))
  have HB2 : Hid (Below w.heap.size w w2) := HO2.out.2
  have HPK := Lib.hid (hP w2 _ zs HI.out.1 (by rw [HZ.out]; omega) HW.out)
  have HPR : Hid (∀ w', Below w.heap.size w w' → Calls Try.prog 9 #[.slice (some x) len cap] w' fun e' w'' => e' = .returned (.tuple #[.string ⟨(packZ zs).1.toArray⟩, .int .i64 (packZ zs).2]) ∧ Below w'.heap.size w' w'') := fun w' hbw => packR_c w' _ zs (HV.out.below hbw (Nat.le_refl _)) (by rw [HZ.out]; omega) HW.out
  generalize (packZ zs).2 = E at *
  generalize (⟨(packZ zs).1.toArray⟩ : ByteArray) = T at *
  clear HO1 HO2 HA
  refine HPK.out.mono ?_
  rintro e1 w3 ⟨rfl, hb3⟩
  have HB3 : Hid (Below w2.heap.size w2 w3) := hb3
  have HW3 := Lib.hid (HB2.out.trans (hb3.mono HB2.out.size))
  clear hb3
  go_wp2_with fail
  refine (HPR.out _ HW3.out).mono ?_
  rintro e1 w4 ⟨rfl, hb4⟩
  have HB4 := Lib.hid (HB3.out.trans (hb4.mono HB3.out.size))
  clear hb4 HW3
  go_wp2_with fail
  refine (awake3_any hP hR _).mono ?_
  rintro e1 w5 ⟨rfl, hb5⟩
  have HB5 := Lib.hid (HB4.out.trans (hb5.mono HB4.out.size))
  clear hb5
  go_wp2_with fail
  refine (numbers_eq w5 _ _ zs zs (HI.out.1.below HB5.out (Nat.le_refl _)) (HV.out.below (HB2.out.trans (HB5.out.mono HB2.out.size)) (Nat.le_refl _)) (by rw [HZ.out]; omega) (by rw [HZ.out]; omega) rfl).mono ?_
  rintro e1 w6 ⟨rfl, hb6⟩
  have HB6 := Lib.hid (HB5.out.trans (hb6.mono HB5.out.size))
  clear hb6
  have c77 : w6.cell? ⟨g, len, none⟩ = some (.int .i64 77) := (HB6.out.cell (p := ⟨g, len, none⟩) hgl).trans HI.out.2
  have HF : Hid (Below w.heap.size w w6) := HB2.out.trans (HB6.out.mono HB2.out.size)
  go_wp2_with fail
  go_ret
  exact ⟨rfl, HF.out⟩

set_option maxRecDepth 100000 in
set_option maxHeartbeats 2000000 in
theorem packs_none (hP : PackC) (hR : ReadC) (w : World) :
    Calls Try.prog 3 #[.slice none 0 0] w fun e w' => e = .returned (.bool true) ∧ Below w.heap.size w w' := by
  obtain ⟨ii, hi, hz0, hz1, hz2⟩ := info_parts Try.infoI
  have L0 := World.ownsRow_lit (e := 3) (size := 1) w #[] 0 (Nat.le_refl _) (by unfold maxLen; omega) rfl
  have LB : Below w.heap.size w (w.alloc (.cells #[] 3)) := (Below.refl _ _).alloc (Nat.le_refl _) _
  have HO0 : Hid (OwnI (w.alloc (.cells #[] 3)) w.heap.size (.slice (some ⟨w.heap.size, 0, none⟩) 0 0) []) := L0
  have HA := Lib.hid (And.intro L0 LB)
  have hv : IntS w (.slice none 0 0) [] := ⟨none, 0, rfl, Nat.le_refl _, by omega, fun h => by simp at h⟩
  have HV := Lib.hid hv
  have HW : Hid (Wf ([] : List Int)) := fun z hz => absurd hz List.not_mem_nil
  clear L0 LB hv
  go_enter Try.func3, Try.ntmps3
  go_wp2_with (at_builtin; first
    | (refine wpList_append_own _ rfl _ _ 22 rfl w.heap.size 3 ii (.int .i64 0) 1 8 Try.underlying22 hi hz0 hz1 hz2 rfl (by decide) (.slice (some ⟨w.heap.size, 0, none⟩) 0 0) 0 [] rfl (HA.out.1.alloc _) ⟨(w.alloc (.cells #[] 3)).heap.size, 0, none⟩ 1 1 [.int .i64 77] (by simp [Act.eval]) rfl (news_77 _) one_77 (by unfold maxLen; omega) (by omega) (by simp; omega) ?_; intro v2 w2 hown2 hg2 _; have HO2 := Lib.hid (ownI_push (by simp) HO0.out HA.out.2 hown2 hg2); clear hown2 hg2; obtain ⟨g, cap2, rfl, hcp1, hcp2, hgl, hc77, hin⟩ := in_split HO2.out.1; have HI := Lib.hid (And.intro hin hc77); clear hin hc77)
    | (refine wpList_append_own_none rfl _ _ 22 rfl w.heap.size 3 ii 1 Try.underlying22 hi (.slice (some ⟨w.heap.size, 0, none⟩) 0 0) 0 [] rfl HA.out.1 rfl ?_))
  have HB2 : Hid (Below w.heap.size w w2) := HO2.out.2
  have HPK := Lib.hid (hP w2 _ [] HI.out.1 (by simp) HW.out)
  have HPR : Hid (∀ w', Below w.heap.size w w' → Calls Try.prog 9 #[.slice none 0 0] w' fun e' w'' => e' = .returned (.tuple #[.string ⟨(packZ []).1.toArray⟩, .int .i64 (packZ []).2]) ∧ Below w'.heap.size w' w'') := fun w' hbw => packR_c w' _ [] (HV.out.below hbw (Nat.le_refl _)) (by simp) HW.out
  generalize (packZ []).2 = E at *
  generalize (⟨(packZ []).1.toArray⟩ : ByteArray) = T at *
  clear HO2 HA HO0
  refine HPK.out.mono ?_
  rintro e1 w3 ⟨rfl, hb3⟩
  have HB3 : Hid (Below w2.heap.size w2 w3) := hb3
  have HW3 := Lib.hid (HB2.out.trans (hb3.mono HB2.out.size))
  clear hb3
  go_wp2_with fail
  refine (HPR.out _ HW3.out).mono ?_
  rintro e1 w4 ⟨rfl, hb4⟩
  have HB4 := Lib.hid (HB3.out.trans (hb4.mono HB3.out.size))
  clear hb4 HW3
  go_wp2_with fail
  refine (awake3_any hP hR _).mono ?_
  rintro e1 w5 ⟨rfl, hb5⟩
  have HB5 := Lib.hid (HB4.out.trans (hb5.mono HB4.out.size))
  clear hb5
  go_wp2_with fail
  refine (numbers_eq w5 _ _ [] [] (HI.out.1.below HB5.out (Nat.le_refl _)) (HV.out.below (HB2.out.trans (HB5.out.mono HB2.out.size)) (Nat.le_refl _)) (by simp) (by simp) rfl).mono ?_
  rintro e1 w6 ⟨rfl, hb6⟩
  have HB6 := Lib.hid (HB5.out.trans (hb6.mono HB5.out.size))
  clear hb6
  have c77 : w6.cell? ⟨g, 0, none⟩ = some (.int .i64 77) := (HB6.out.cell (p := ⟨g, 0, none⟩) hgl).trans HI.out.2
  have HF : Hid (Below w.heap.size w w6) := HB2.out.trans (HB6.out.mono HB2.out.size)
  go_wp2_with fail
  go_ret
  exact ⟨rfl, HF.out⟩

/-- The statement, walked. -/
theorem packs_walk3 (hP : PackC) (hR : ReadC) (v : Value) (zs : List Int) (w : World) (hv : IntS w v zs) (hn : v = .slice none 0 0 ∨ ∃ x l c, v = .slice (some x) l c) (hwf : Wf zs) (hlen : zs.length ≤ 1048576) :
    Calls Try.prog 3 #[v] w fun e w' => e = .returned (.bool true) ∧ Below w.heap.size w w' := by
  rcases hn with rfl | ⟨x, l, c, rfl⟩
  · exact packs_none hP hR w
  · obtain ⟨hz, hcells⟩ := hv.cellAt
    refine packs_some hP hR x l c zs w hv hz ?_ hwf (by omega)
    intro j u hj
    have hjn : j < zs.length := by
      have := (List.getElem?_eq_some_iff.1 hj).1
      simpa [intsV] using this
    obtain ⟨g, o, h1, h2, h3⟩ := hcells (by omega)
    simp only [Option.some.injEq] at h1
    subst h1
    rw [Addr.add_lit]
    refine ⟨?_, h2⟩
    rw [h3 j hjn]
    simp [intsV, hjn] at hj
    rw [← hj]
end Go.Proofs.Ytjeicjnlhepaiaa
