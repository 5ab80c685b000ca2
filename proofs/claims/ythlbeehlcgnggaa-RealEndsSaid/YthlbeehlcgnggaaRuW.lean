/-
  The first and the last of all lists; the list stays: the walk of the statement.
-/
import Derived.Test.YthlbeehlcgnggaaRuR
import Derived.Test.YthlbeehlcgnggaaRa
namespace Go.Proofs.Ythlbeehlcgnggaa
open Go.RowKit

theorem ansE_is (l : List Nat) : ∃ (A B : Nat) (ok : Bool), ansE l = #[.int .u64 A, .int .u64 B, .bool ok] := by
  unfold ansE
  split
  · exact ⟨0, 0, false, rfl⟩
  · exact ⟨_, _, true, rfl⟩
theorem ownU_open {w : World} {B : Nat} {v : Value} {l : List Nat} (h : OwnU w B v l) : ∃ (g : Nat) (a : Option Addr) (cap : Nat), v = .slice a l.length cap ∧ B ≤ g := by
  obtain ⟨a, cap, h1, _⟩ := ownU_cells h
  exact ⟨B, a, cap, h1, Nat.le_refl _⟩

set_option maxRecDepth 100000 in
set_option maxHeartbeats 4000000 in
theorem endsL_some (x : Addr) (cap : Nat) (zs : List Nat) (w : World) (hv : WordS w (.slice (some x) zs.length cap) zs) (hwf : WordsU zs) (hlen : zs.length ≤ 17592186043904) :
    Calls Try.prog 4 #[.slice (some x) zs.length cap] w fun e w' => e = .returned (.bool true) ∧ Below w.heap.size w w' := by
  have LB : Below w.heap.size w (w.alloc (.cells #[] 22)) := (Below.refl _ _).alloc (Nat.le_refl _) _
  have L0 : OwnU (w.alloc (.cells #[] 22)) w.heap.size (.slice (some ⟨w.heap.size, 0, none⟩) 0 0) [] := World.ownsRow_lit (e := 22) (size := 1) w #[] 0 (Nat.le_refl _) (by unfold maxLen; omega) rfl
  have HA := Lib.hid (And.intro L0 (And.intro LB (hv.below LB (Nat.le_refl _))))
  have HV := Lib.hid hv
  have HWF := Lib.hid hwf
  obtain ⟨A, B, ok, hans⟩ := ansE_is zs
  have HANS := Lib.hid hans
  clear L0 LB hv hwf hans
  go_enter Try.func4, Try.ntmps4
  go_wp2_with (at_builtin; first
    | (refine wpList_pushU rfl _ _ rfl w.heap.size HO1.out.2.size (.slice a1 zs.length c1) zs 77 rfl HO1.out.1 rfl (by omega) ?_; intro v2 w2 hown2 hb2 _; have HO2 : Hid (Below w.heap.size w w2) := HO1.out.2.trans hb2; clear hb2; obtain ⟨g, cap2, rfl, hcp1, hcp2, hgl, hc77, hin⟩ := in_splitU hown2; have HI := Lib.hid (And.intro hin hc77); clear hin hc77 hown2)
    | (refine wpList_appU rfl _ _ rfl w.heap.size (by simp) (.slice (some ⟨w.heap.size, 0, none⟩) 0 0) [] zs rfl HA.out.1 x cap rfl HA.out.2.2 (by simp; omega) ?_; intro v1 w1 hown1 hb1; obtain ⟨g1, a1, c1, rfl, _⟩ := ownU_open hown1; have HO1 : Hid (OwnU w1 w.heap.size (.slice a1 zs.length c1) zs ∧ Below w.heap.size w w1) := ⟨hown1, HA.out.2.1.trans hb1⟩; clear hown1 hb1))
  have HB2 : Hid (Below w.heap.size w w2) := HO2.out
  have HPK := Lib.hid (ends_any w2 _ zs HI.out.1)
  have HPR : Hid (∀ w', Below w.heap.size w w' → Calls Try.prog 15 #[.slice (some x) zs.length cap] w' fun e w'' => e = .returned (.tuple (ansE zs)) ∧ ∃ n, w'' = w'.drewN n) := fun w' hbw => refEnds_any w' _ zs (HV.out.below hbw (Nat.le_refl _)) HWF.out
  have HAW : Hid (∀ w', Calls Try.prog 8 #[] w' fun e' w'' => e' = .returned (.bool true) ∧ Below w'.heap.size w' w'') := fun w' => awake_any w'
  rw [HANS.out] at HPK HPR
  clear HO2 HA HO1 HANS
  refine HPK.out.mono ?_
  rintro e1 w3 ⟨rfl, n3, hn3⟩
  have HB3 : Hid (Below w2.heap.size w2 w3) := by rw [hn3]; exact belowN (Below.refl _ _) n3
  have HW3 : Hid (Below w.heap.size w w3) := by rw [hn3]; exact belowN HB2.out n3
  clear hn3 HPK
  go_wp2_with fail
  refine (HPR.out _ HW3.out).mono ?_
  rintro e1 w4 ⟨rfl, n4, hn4⟩
  have HB4 : Hid (Below w2.heap.size w2 w4) := by rw [hn4]; exact belowN HB3.out n4
  clear hn4 HPR HB3 HW3
  obtain ⟨n, hn⟩ : ∃ n, n = zs.length := ⟨_, rfl⟩
  have HN := Lib.hid hn
  have C1 : Hid (∀ W, Below w2.heap.size w2 W → ∀ j (_ : j < n), W.cell? ⟨g, j, none⟩ = some (.int .u64 (zs.getD j 0 : Nat))) := fun W hb j hj => by
    obtain ⟨a', cap', hv', _, _, hc'⟩ := HI.out.1
    obtain ⟨g', o', ha', hg', hcl'⟩ := hc' (by omega)
    simp only [Value.slice.injEq] at hv'
    rw [← hv'.1] at ha'
    obtain ⟨rfl, rfl, _⟩ : g = g' ∧ 0 = o' ∧ True := by simpa using ha'
    have := hcl' j (by omega)
    rw [Nat.zero_add] at this
    rw [hb.cell (p := ⟨g, j, none⟩) hg', this, word_at]
  have C2 : Hid (0 < n → ∃ gx ox, x = ⟨gx, ox, none⟩ ∧ ∀ W, Below w2.heap.size w2 W → ∀ j (_ : j < n), W.cell? ⟨gx, ox + j, none⟩ = some (.int .u64 (zs.getD j 0 : Nat))) := fun h0 => by
    obtain ⟨a', cap', hv', _, _, hc'⟩ := HV.out
    obtain ⟨g', o', ha', hg', hcl'⟩ := hc' (by omega)
    simp only [Value.slice.injEq] at hv'
    rw [← hv'.1] at ha'
    have ha' := Option.some.inj ha'
    refine ⟨g', o', ha', fun W hb j hj => ?_⟩
    have hbb := HB2.out.trans (hb.mono HB2.out.size)
    rw [hbb.cell (p := ⟨g', o' + j, none⟩) hg', hcl' j (by omega), word_at]
  have C7 : Hid (∀ W, Below w2.heap.size w2 W → W.cell? ⟨g, n, none⟩ = some (.int .u64 77)) := fun W hb => by
    rw [hb.cell (p := ⟨g, n, none⟩) hgl, hn]
    exact HI.out.2
  rw [← hn]
  rw [← hn] at hcp1 hlen
  clear hn HI HV HWF
  go_wp2_with fail
  go_loopg [10] n (fun gg vi wx => ∃ k : Nat, k ≤ n ∧ gg = n - k ∧ vi = .int .i64 k ∧ Below w2.heap.size w2 wx)
  case atStart => exact ⟨0, Nat.zero_le _, rfl, rfl, HB4.out⟩
  case round =>
    obtain ⟨k, hk, rfl, rfl, hbel⟩ := hrel
    have HBE := Lib.hid hbel
    by_cases hkn : k < n
    · have j1 : (k : Int) < (n : Int) := by omega
      obtain ⟨gx, ox, rfl, hcx⟩ := C2.out (by omega)
      have c1 := C1.out wr hbel k hkn
      have c2 := hcx wr hbel k hkn
      clear hcx hbel
      generalize zs.getD k 0 = z at *
      have hne : ((z : Int) != (z : Int)) = false := by simp
      go_wp2_with fail
      go_quiet (fail)
      go_wp2_with fail
      go_roundg (n - (k + 1))
      case rel => exact ⟨k + 1, by omega, rfl, by go_num, by first | exact HBE.out | exact belowN HBE.out _⟩
      case measure => omega
    · obtain rfl : k = n := by omega
      have e1 : ((A : Int) == (A : Int)) = true := by simp
      have e2 : ((B : Int) == (B : Int)) = true := by simp
      have e3 : (ok == ok) = true := by simp
      have j2 : ¬ (k : Int) < (k : Int) := by omega
      clear hbel C1 C2
      go_wp2_with fail
      refine (HAW.out _).mono ?_
      rintro e w5 ⟨rfl, hb5⟩
      have HB5 : Hid (Below w2.heap.size w2 w5) := HBE.out.trans (hb5.mono HBE.out.size)
      clear hb5
      have c77 := C7.out w5 HB5.out
      have HF : Hid (Below w.heap.size w w5) := HB2.out.trans (HB5.out.mono HB2.out.size)
      have j3 : (k : Int) + 1 ≤ (cap2 : Int) := by omega
      go_wp2_with fail
      go_ret
      exact ⟨rfl, HF.out⟩

set_option maxRecDepth 100000 in
set_option maxHeartbeats 4000000 in
theorem endsL_none (w : World) :
    Calls Try.prog 4 #[.slice none 0 0] w fun e w' => e = .returned (.bool true) ∧ Below w.heap.size w w' := by
  obtain ⟨ii, hi, hz0, hz1, hz2⟩ := info_parts Try.infoU
  have LB : Below w.heap.size w (w.alloc (.cells #[] 22)) := (Below.refl _ _).alloc (Nat.le_refl _) _
  have L0 : OwnU (w.alloc (.cells #[] 22)) w.heap.size (.slice (some ⟨w.heap.size, 0, none⟩) 0 0) [] := World.ownsRow_lit (e := 22) (size := 1) w #[] 0 (Nat.le_refl _) (by unfold maxLen; omega) rfl
  have hv : ∀ w', WordS w' (.slice none 0 0) [] := fun w' => ⟨none, 0, rfl, Nat.le_refl _, by omega, fun h => by simp at h⟩
  have HA := Lib.hid (And.intro L0 LB)
  have HV := Lib.hid hv
  obtain ⟨A, B, ok, hans⟩ := ansE_is []
  have HANS := Lib.hid hans
  clear L0 LB hv hans
  go_enter Try.func4, Try.ntmps4
  go_wp2_with (at_builtin; first
    | (refine wpList_pushU (w := w.alloc (.cells #[] 22)) rfl _ _ rfl w.heap.size (by simp) (.slice (some ⟨w.heap.size, 0, none⟩) 0 0) [] 77 rfl HA.out.1 (by simp [Act.eval]) (by simp) ?_; intro v2 w2 hown2 hb2 _; have HO2 : Hid (Below w.heap.size w w2) := HA.out.2.trans hb2; clear hb2; obtain ⟨g, cap2, rfl, hcp1, hcp2, hgl, hc77, hin⟩ := in_splitU hown2; have HI := Lib.hid (And.intro hin hc77); clear hin hc77 hown2)
    | (refine wpList_append_own_none rfl _ _ 27 rfl w.heap.size 22 ii 1 Try.underlying27 hi (.slice (some ⟨w.heap.size, 0, none⟩) 0 0) 0 [] rfl HA.out.1 rfl ?_))
  have HB2 : Hid (Below w.heap.size w w2) := HO2.out
  have HPK := Lib.hid (ends_any w2 _ [] HI.out.1)
  have HPR : Hid (∀ w', Calls Try.prog 15 #[.slice none 0 0] w' fun e w'' => e = .returned (.tuple (ansE [])) ∧ ∃ n, w'' = w'.drewN n) := fun w' => refEnds_any w' _ [] (HV.out w') (fun x hx => absurd hx List.not_mem_nil)
  have HAW : Hid (∀ w', Calls Try.prog 8 #[] w' fun e' w'' => e' = .returned (.bool true) ∧ Below w'.heap.size w' w'') := fun w' => awake_any w'
  rw [HANS.out] at HPK HPR
  clear HO2 HA HANS
  refine HPK.out.mono ?_
  rintro e1 w3 ⟨rfl, n3, hn3⟩
  have HB3 : Hid (Below w2.heap.size w2 w3) := by rw [hn3]; exact belowN (Below.refl _ _) n3
  clear hn3 HPK
  go_wp2_with fail
  refine (HPR.out _).mono ?_
  rintro e1 w4 ⟨rfl, n4, hn4⟩
  have HB4 : Hid (Below w2.heap.size w2 w4) := by rw [hn4]; exact belowN HB3.out n4
  clear hn4 HPR HB3
  have C7 : Hid (∀ W, Below w2.heap.size w2 W → W.cell? ⟨g, 0, none⟩ = some (.int .u64 77)) := fun W hb => by
    rw [hb.cell (p := ⟨g, 0, none⟩) hgl]
    exact HI.out.2
  simp only [List.length_nil, Nat.zero_add] at hcp1
  clear HI HV
  go_wp2_with fail
  go_loopg [10] 0 (fun gg vi wx => gg = 0 ∧ vi = .int .i64 0 ∧ Below w2.heap.size w2 wx)
  case atStart => exact ⟨rfl, rfl, HB4.out⟩
  case round =>
    obtain ⟨rfl, rfl, hbel⟩ := hrel
    have HBE := Lib.hid hbel
    have e1 : ((A : Int) == (A : Int)) = true := by simp
    have e2 : ((B : Int) == (B : Int)) = true := by simp
    have e3 : (ok == ok) = true := by simp
    clear hbel
    go_wp2_with fail
    refine (HAW.out _).mono ?_
    rintro e w5 ⟨rfl, hb5⟩
    have HB5 : Hid (Below w2.heap.size w2 w5) := HBE.out.trans (hb5.mono HBE.out.size)
    clear hb5
    have c77 := C7.out w5 HB5.out
    have HF : Hid (Below w.heap.size w w5) := HB2.out.trans (HB5.out.mono HB2.out.size)
    have j3 : (1 : Int) ≤ (cap2 : Int) := by omega
    go_wp2_with fail
    go_ret
    exact ⟨rfl, HF.out⟩

theorem ends_walk (w : World) (a : Option Addr) (len cap : Nat) (zs : List Nat) (hv : WordS w (.slice a len cap) zs) (hwf : WordsU zs) (hn : (.slice a len cap : Value) = .slice none 0 0 ∨ ∃ x l c, (.slice a len cap : Value) = .slice (some x) l c) (hlen : zs.length ≤ 17592186043904) :
    Calls Try.prog 4 #[.slice a len cap] w fun e w' => e = .returned (.bool true) ∧ Below w.heap.size w w' := by
  rcases hn with h | ⟨x, l, c, h⟩
  · rw [h]
    exact endsL_none w
  · obtain ⟨a', cap', h', _⟩ := id hv
    rw [h] at h' hv ⊢
    simp only [Value.slice.injEq] at h'
    obtain ⟨_, rfl, rfl⟩ := h'
    exact endsL_some x _ zs w hv hwf hlen

end Go.Proofs.Ythlbeehlcgnggaa
