/-
  The bytes of every list of numbers, or the refusal; the list stays: the walk of the statement.
-/
import Derived.Test.YthjbnhalbbpmcaaDoorUa
import Derived.Test.YthjbnhalbbpmcaaDoorUg
import Derived.Test.YthjbnhalbbpmcaaDoorMn
namespace Go.Proofs.YthjbnhalbbpmcaaDoor
open Go.RowKit

theorem ownI_open' {w : World} {B : Nat} {v : Value} {l : List Int} (h : OwnI w B v l) : ∃ (g : Nat) (a : Option Addr) (cap : Nat), v = .slice a l.length cap ∧ B ≤ g := by
  obtain ⟨a, cap, h1, _⟩ := ownI_cells h
  exact ⟨B, a, cap, h1, Nat.le_refl _⟩

set_option maxRecDepth 100000 in
set_option maxHeartbeats 2000000 in
theorem encodes_some (x : Addr) (cap : Nat) (zs : List Int) (w : World) (hT : Tabs w) (hv : IntS w (.slice (some x) zs.length cap) zs) (hlen : zs.length ≤ 17592186043904) :
    Calls Tryd.prog 3 #[.slice (some x) zs.length cap] w fun e w' => e = .returned (.bool true) ∧ Below w.heap.size w w' := by
  have LB : Below w.heap.size w (w.alloc (.cells #[] 3)) := (Below.refl _ _).alloc (Nat.le_refl _) _
  have L0 : OwnI (w.alloc (.cells #[] 3)) w.heap.size (.slice (some ⟨w.heap.size, 0, none⟩) 0 0) [] := World.ownsRow_lit (e := 3) (size := 1) w #[] 0 (Nat.le_refl _) (by unfold maxLen; omega) rfl
  have HA := Lib.hid (And.intro L0 (And.intro LB (hv.below LB (Nat.le_refl _))))
  have HV := Lib.hid hv
  have HT := Lib.hid hT
  clear L0 LB hv hT
  go_enter Tryd.func3, Tryd.ntmps3
  go_wp2_with (at_builtin; first
    | (refine wpList_pushI rfl _ _ rfl w.heap.size HO1.out.2.size (.slice a1 zs.length c1) zs 77 rfl HO1.out.1 rfl (by omega) ?_; intro v2 w2 hown2 hb2 _; have HO2 : Hid (Below w.heap.size w w2) := HO1.out.2.trans hb2; clear hb2; obtain ⟨g, cap2, rfl, hcp1, hcp2, hgl, hc77, hin⟩ := in_split hown2; have HI := Lib.hid (And.intro hin hc77); clear hin hc77 hown2)
    | (refine wpList_appI rfl _ _ rfl w.heap.size (by simp) (.slice (some ⟨w.heap.size, 0, none⟩) 0 0) [] zs rfl HA.out.1 x cap rfl HA.out.2.2 (by simp; omega) ?_; intro v1 w1 hown1 hb1; obtain ⟨g1, a1, c1, rfl, _⟩ := ownI_open' hown1; have HO1 : Hid (OwnI w1 w.heap.size (.slice a1 zs.length c1) zs ∧ Below w.heap.size w w1) := ⟨hown1, HA.out.2.1.trans hb1⟩; clear hown1 hb1))
  have HB2 : Hid (Below w.heap.size w w2) := HO2.out
  have HPK := Lib.hid (encode_any w2 _ zs HI.out.1 (by omega))
  have HPR : Hid (∀ w', Below w.heap.size w w' → Calls Tryd.prog 10 #[.slice (some x) zs.length cap] w' (EncPost w' zs)) := fun w' hbw => encodeR_any w' _ zs (HV.out.below hbw (Nat.le_refl _)) (by omega)
  have HAW : Hid (∀ w', Below w.heap.size w w' → Calls Tryd.prog 11 #[] w' fun e' w'' => e' = .returned (.bool true) ∧ Below w'.heap.size w' w'') := fun w' hbw => awake_any w' (HT.out.below hbw)
  unfold EncPost at HPK HPR
  generalize Ut.encE zs = E at *
  generalize (⟨(Ut.encS zs).toArray⟩ : ByteArray) = T at *
  clear HO2 HA HO1
  refine HPK.out.mono ?_
  rintro e1 w3 ⟨rfl, hb3⟩
  have HB3 : Hid (Below w2.heap.size w2 w3) := hb3
  have HW3 := Lib.hid (HB2.out.trans (hb3.mono HB2.out.size))
  clear hb3
  go_wp2_with fail
  refine (HPR.out _ HW3.out).mono ?_
  rintro e1 w4 ⟨rfl, hb4⟩
  have HB4 := Lib.hid (HB3.out.trans (hb4.mono HB3.out.size))
  have HW4 := Lib.hid (HW3.out.trans (hb4.mono HW3.out.size))
  clear hb4 HW3
  go_wp2_with fail
  refine (HAW.out _ HW4.out).mono ?_
  rintro e1 w5 ⟨rfl, hb5⟩
  have HB5 := Lib.hid (HB4.out.trans (hb5.mono HB4.out.size))
  clear hb5
  have HNM := Lib.hid (numbers_any w5 _ _ zs zs (HI.out.1.below HB5.out (Nat.le_refl _)) (HV.out.below (HB2.out.trans (HB5.out.mono HB2.out.size)) (Nat.le_refl _)) (by omega) (by omega))
  rw [decide_eq_true rfl] at HNM
  go_wp2_with fail
  refine HNM.out.mono ?_
  rintro e1 w6 ⟨rfl, hb6⟩
  have HB6 := Lib.hid (HB5.out.trans (hb6.mono HB5.out.size))
  clear hb6
  have c77 : w6.cell? ⟨g, zs.length, none⟩ = some (.int .i64 77) := (HB6.out.cell (p := ⟨g, zs.length, none⟩) hgl).trans HI.out.2
  have HF : Hid (Below w.heap.size w w6) := HB2.out.trans (HB6.out.mono HB2.out.size)
  go_wp2_with fail
  go_ret
  exact ⟨rfl, HF.out⟩

set_option maxRecDepth 100000 in
set_option maxHeartbeats 2000000 in
theorem encodes_none (w : World) (hT : Tabs w) :
    Calls Tryd.prog 3 #[.slice none 0 0] w fun e w' => e = .returned (.bool true) ∧ Below w.heap.size w w' := by
  obtain ⟨ii, hi, hz0, hz1, hz2⟩ := info_parts Tryd.infoI
  have LB : Below w.heap.size w (w.alloc (.cells #[] 3)) := (Below.refl _ _).alloc (Nat.le_refl _) _
  have L0 : OwnI (w.alloc (.cells #[] 3)) w.heap.size (.slice (some ⟨w.heap.size, 0, none⟩) 0 0) [] := World.ownsRow_lit (e := 3) (size := 1) w #[] 0 (Nat.le_refl _) (by unfold maxLen; omega) rfl
  have hv : IntS w (.slice none 0 0) [] := ⟨none, 0, rfl, Nat.le_refl _, by omega, fun h => by simp at h⟩
  have HA := Lib.hid (And.intro L0 LB)
  have HV := Lib.hid hv
  have HT := Lib.hid hT
  clear L0 LB hv hT
  go_enter Tryd.func3, Tryd.ntmps3
  go_wp2_with (at_builtin; first
    | (refine wpList_pushI (w := w.alloc (.cells #[] 3)) rfl _ _ rfl w.heap.size (by simp) (.slice (some ⟨w.heap.size, 0, none⟩) 0 0) [] 77 rfl HA.out.1 (by simp [Act.eval]) (by simp) ?_; intro v2 w2 hown2 hb2 _; have HO2 : Hid (Below w.heap.size w w2) := HA.out.2.trans hb2; clear hb2; obtain ⟨g, cap2, rfl, hcp1, hcp2, hgl, hc77, hin⟩ := in_split hown2; have HI := Lib.hid (And.intro hin hc77); clear hin hc77 hown2)
    | (refine wpList_append_own_none rfl _ _ 22 rfl w.heap.size 3 ii 1 Tryd.underlying22 hi (.slice (some ⟨w.heap.size, 0, none⟩) 0 0) 0 [] rfl HA.out.1 rfl ?_))
  have HB2 : Hid (Below w.heap.size w w2) := HO2.out
  have HPK := Lib.hid (encode_any w2 _ [] HI.out.1 (by simp))
  have HPR : Hid (∀ w', Below w.heap.size w w' → Calls Tryd.prog 10 #[.slice none 0 0] w' (EncPost w' [])) := fun w' hbw => encodeR_any w' _ [] (HV.out.below hbw (Nat.le_refl _)) (by simp)
  have HAW : Hid (∀ w', Below w.heap.size w w' → Calls Tryd.prog 11 #[] w' fun e' w'' => e' = .returned (.bool true) ∧ Below w'.heap.size w' w'') := fun w' hbw => awake_any w' (HT.out.below hbw)
  unfold EncPost at HPK HPR
  generalize Ut.encE [] = E at *
  generalize (⟨(Ut.encS []).toArray⟩ : ByteArray) = T at *
  clear HO2 HA
  refine HPK.out.mono ?_
  rintro e1 w3 ⟨rfl, hb3⟩
  have HB3 : Hid (Below w2.heap.size w2 w3) := hb3
  have HW3 := Lib.hid (HB2.out.trans (hb3.mono HB2.out.size))
  clear hb3
  go_wp2_with fail
  refine (HPR.out _ HW3.out).mono ?_
  rintro e1 w4 ⟨rfl, hb4⟩
  have HB4 := Lib.hid (HB3.out.trans (hb4.mono HB3.out.size))
  have HW4 := Lib.hid (HW3.out.trans (hb4.mono HW3.out.size))
  clear hb4 HW3
  go_wp2_with fail
  refine (HAW.out _ HW4.out).mono ?_
  rintro e1 w5 ⟨rfl, hb5⟩
  have HB5 := Lib.hid (HB4.out.trans (hb5.mono HB4.out.size))
  clear hb5
  have HNM := Lib.hid (numbers_any w5 _ _ [] [] (HI.out.1.below HB5.out (Nat.le_refl _)) (HV.out.below (HB2.out.trans (HB5.out.mono HB2.out.size)) (Nat.le_refl _)) (by simp) (by simp))
  rw [decide_eq_true rfl] at HNM
  go_wp2_with fail
  refine HNM.out.mono ?_
  rintro e1 w6 ⟨rfl, hb6⟩
  have HB6 := Lib.hid (HB5.out.trans (hb6.mono HB5.out.size))
  clear hb6
  have c77 : w6.cell? ⟨g, 0, none⟩ = some (.int .i64 77) := (HB6.out.cell (p := ⟨g, 0, none⟩) hgl).trans HI.out.2
  have HF : Hid (Below w.heap.size w w6) := HB2.out.trans (HB6.out.mono HB2.out.size)
  go_wp2_with fail
  go_ret
  exact ⟨rfl, HF.out⟩

theorem encodes_walk (w : World) (a : Option Addr) (len cap : Nat) (zs : List Int) (hT : Tabs w) (hv : IntS w (.slice a len cap) zs) (hn : (.slice a len cap : Value) = .slice none 0 0 ∨ ∃ x l c, (.slice a len cap : Value) = .slice (some x) l c) (hlen : zs.length ≤ 17592186043904) :
    Calls Tryd.prog 3 #[.slice a len cap] w fun e w' => e = .returned (.bool true) ∧ Below w.heap.size w w' := by
  rcases hn with h | ⟨x, l, c, h⟩
  · rw [h]
    exact encodes_none w hT
  · obtain ⟨a', cap', h', _⟩ := id hv
    rw [h] at h' hv ⊢
    simp only [Value.slice.injEq] at h'
    obtain ⟨_, rfl, rfl⟩ := h'
    exact encodes_some x _ zs w hT hv hlen
end Go.Proofs.YthjbnhalbbpmcaaDoor
