/-
  Packed numbers are small: the walk of the statement, over what is asked of Pack and Read.
-/
import Derived.Test.YtjeicjnlhepaiaaBpC
namespace Go.Proofs.Ytjeicjnlhepaiaa
open Go.RowKit

theorem IntS.cellAt {w : World} {a : Option Addr} {len cap : Nat} {zs : List Int} (h : IntS w (.slice a len cap) zs) : zs.length = len ∧ (0 < len → ∃ g o, a = some ⟨g, o, none⟩ ∧ g < w.heap.size ∧ ∀ j (_ : j < zs.length), w.cell? ⟨g, o + j, none⟩ = some (.int .i64 zs[j])) := by
  obtain ⟨a', cap', h1, h2, h3, h4⟩ := h
  simp only [Value.slice.injEq] at h1
  obtain ⟨rfl, rfl, rfl⟩ := h1
  exact ⟨rfl, h4⟩
theorem packZ_nn (zs : List Int) (h : ∀ z ∈ zs, 0 ≤ z) : packZ zs = (Bp.packB (zs.map Int.toNat), 0) := by
  unfold packZ
  rw [if_neg]
  rintro ⟨z, hz, h1⟩
  have := h z hz
  omega

set_option maxRecDepth 100000 in
set_option maxHeartbeats 1000000 in
theorem small_out (hP : PackC) (hR : ReadC) (v : Value) (wd : Int) (w : World) (hwd : wd < 1 ∨ 62 < wd) :
    Calls Try.prog 6 #[v, .int .i64 wd] w fun e w' => e = .returned (.bool true) ∧ Below w.heap.size w w' := by
  rcases hwd with hwd | hwd
  all_goals
    go_enter Try.func6, Try.ntmps6
    have HB : Hid (Below w.heap.size w w) := Below.refl _ _
    go_wp2_with (go_at_call 10; refine (awake3_any hP hR _).mono ?_; rintro e1 w2 ⟨rfl, hb⟩; have HB := Lib.hid (HB.out.trans (hb.mono HB.out.size)); clear hb)
    go_ret
    exact ⟨rfl, HB.out⟩

set_option maxRecDepth 100000 in
set_option maxHeartbeats 1000000 in
theorem small_in (hP : PackC) (hR : ReadC) (a : Option Addr) (len cap : Nat) (zs : List Int) (wd : Nat) (w : World) (hwd : 1 ≤ wd) (hwd2 : wd ≤ 62) (hv : IntS w (.slice a len cap) zs) (hwf : Wf zs) (hlen : len ≤ 1073741824) :
    Calls Try.prog 6 #[.slice a len cap, .int .i64 wd] w fun e w' => e = .returned (.bool true) ∧ Below w.heap.size w w' := by
  obtain ⟨ii, hi, hz0, hz1, hz2⟩ := info_parts Try.infoI
  obtain ⟨hzl, hcells⟩ := hv.cellAt
  have HZ := Lib.hid hzl
  have HC := Lib.hid hcells
  have HW := Lib.hid hwf
  clear hzl hcells hv hwf
  go_enter Try.func6, Try.ntmps6
  go_wp2_with (go_at_call 10; refine (awake3_any hP hR _).mono ?_; rintro e1 w1 ⟨rfl, hb⟩; have HB := Lib.hid hb; clear hb)
  go_loopg [5, 6] len (fun g u i wx => ∃ (k : Nat) (acc : List Int), k ≤ len ∧ k ≤ 128 ∧ g = len - k ∧ i = .int .i64 k ∧ OwnI wx w.heap.size u acc ∧ Below w.heap.size w wx ∧ acc.length ≤ k ∧ Hid (∀ x ∈ acc, 0 ≤ x ∧ x < ((2 ^ wd : Nat) : Int)))
  case atStart => exact ⟨0, [], Nat.zero_le _, by omega, rfl, rfl, World.ownsRow_nil _ _ _ _, HB.out, Nat.le_refl _, by intro x hx; simp at hx⟩
  case round =>
    clear HB
    obtain ⟨k, acc, hk, hk8, rfl, rfl, hown, hbel, hal, hacc⟩ := hrel
    have hB := hbel.size
    by_cases hgo : k < len ∧ k < 128
    · obtain ⟨g1, g2⟩ := hgo
      have i1 : (k : Int) < (len : Int) := by omega
      have i2 : (k : Int) < 128 := by omega
      obtain ⟨g, o, rfl, hg, hcu⟩ := HC.out (by omega)
      have kx : k < zs.length := by rw [HZ.out]; exact g1
      have c1 : wr.cell? ⟨g, o + k, none⟩ = some (.int .i64 zs[k]) := (hbel.cell (p := ⟨g, o + k, none⟩) hg).trans (hcu k kx)
      have hx := HW.out zs[k] (List.getElem_mem kx)
      clear hcu
      generalize zs[k] = x at *
      have hpw : (2 : Nat) ^ wd ≤ 4611686018427387904 := by simpa using Nat.pow_le_pow_right (n := 2) (by omega) hwd2
      have hpp : 0 < (2 : Nat) ^ wd := Nat.two_pow_pos wd
      by_cases hneg : x < 0
      · have i3 : ¬ (0 : Int) ≤ x := by omega
        have HO := Lib.hid hown
        have HBE := Lib.hid hbel
        clear hown hbel hneg
        go_wp2_with fail
        go_roundg (len - (k + 1))
        case rel => exact ⟨k + 1, acc, by omega, by omega, rfl, by go_num, HO.out, HBE.out, by omega, hacc⟩
        case measure => omega
      · have i3 : (0 : Int) ≤ x := by omega
        clear hneg
        obtain ⟨P, hP2⟩ : ∃ P, P = 2 ^ wd := ⟨_, rfl⟩
        have HP2 := Lib.hid hP2
        rw [← hP2] at hpw hpp
        have hPz : (P : Int) ≠ 0 := by omega
        have hPp : (0 : Int) < (P : Int) := by omega
        obtain ⟨r, hr0⟩ := Int.eq_ofNat_of_zero_le (Int.emod_nonneg x hPz)
        have hrl : (r : Int) < (P : Int) := by rw [← hr0]; exact Int.emod_lt_of_pos x hPp
        have hr : ∀ _ : True, x % (P : Int) = (r : Int) := fun _ => hr0
        clear hr0
        have e1 : ∀ _ : True, wrap64 ((2 : Int) ^ wd) = (P : Int) := fun _ => by
          rw [show (2 : Int) ^ wd = ((2 ^ wd : Nat) : Int) from by simp, ← hP2]
          unfold wrap64
          omega
        have hn2 : Hid (∀ x ∈ acc ++ [(r : Int)], 0 ≤ x ∧ x < ((2 ^ wd : Nat) : Int)) := by
          intro y hy
          rcases List.mem_append.1 hy with hy | hy
          · exact hacc.out y hy
          · simp only [List.mem_singleton] at hy
            rw [hy, ← HP2.out]
            omega
        have hla : (acc ++ [(r : Int)]).length ≤ k + 1 := by rw [List.length_append]; simpa using hal
        clear hP2 hacc
        have hown' : wr.ownsRow w.heap.size 3 1 u5 acc.length (intsV acc) := hown
        have HOB := Lib.hid (And.intro hown hbel)
        go_wp2_with (at_builtin; go_loud (refine wpList_append_own _ rfl _ _ 22 rfl w.heap.size 3 ii (.int .i64 0) 1 8 Try.underlying22 hi hz0 hz1 hz2 rfl (by decide) _ _ _ rfl (hown'.alloc _) ⟨wr.heap.size, 0, none⟩ 1 1 [.int .i64 (r : Int)] rfl rfl ?c1 ?c2 ?c3 ?c4 ?c5 ?_))
        case c1 =>
          intro j u hj
          match j, hj with
          | 0, hj => simp at hj; subst hj; simp [Addr.add]
        case c2 => intro u hu; simp at hu; subst hu; rfl
        case c3 => unfold maxLen; omega
        case c4 => omega
        case c5 => simp; omega
        · intro v' w2 hown1 hgrow _
          have R := ownI_push hB HOB.out.1 HOB.out.2 hown1 hgrow
          obtain ⟨R1, R2⟩ := R
          have HR1 := Lib.hid R1
          have HR2 := Lib.hid R2
          clear hown1 hgrow hown hown' hbel R1 R2 HOB
          go_wp2
          go_roundg (len - (k + 1))
          case rel => exact ⟨k + 1, _, by omega, by omega, rfl, by go_num, HR1.out, HR2.out, hla, hn2⟩
          case measure => omega
    · obtain ⟨n, hn⟩ : ∃ n, n = acc.length := ⟨_, rfl⟩
      have hnn : ∀ z ∈ acc, 0 ≤ z := fun z hz => (hacc.out z hz).1
      have hpk := packZ_nn acc hnn
      have hwa : Wf acc := fun z hz => by
        have := hacc.out z hz
        have hpw : (2 : Nat) ^ wd ≤ 4611686018427387904 := by simpa using Nat.pow_le_pow_right (n := 2) (by omega) hwd2
        omega
      have hI : IntS wr u5 acc := hown.ints (by omega)
      have HP3 := Lib.hid (hP wr u5 acc hI (by omega) hwa)
      rw [hpk] at HP3
      have hsm := Bp.pack_small (acc.map Int.toNat) wd (by omega) (by rw [List.length_map]; omega) (by
        intro x hx
        obtain ⟨z, hz, rfl⟩ := List.mem_map.1 hx
        have := hacc.out z hz
        omega)
      rw [List.length_map] at hsm
      have hone : acc.length = 0 → (Bp.packB (acc.map Int.toNat)).length = 1 := fun h => by
        rw [List.length_eq_zero_iff.1 h]
        decide +kernel
      rw [← hn] at hsm hone
      obtain ⟨a5, cap5, hv5, hz5⟩ := hI
      clear hz5
      rw [← hn] at hv5
      subst hv5
      obtain ⟨Q, hQ⟩ : ∃ Q, Q = (Bp.packB (acc.map Int.toNat)).length := ⟨_, rfl⟩
      have hsz : (⟨(Bp.packB (acc.map Int.toNat)).toArray⟩ : ByteArray).size = Q := by rw [hQ]; simp [ByteArray.size]
      rw [← hQ] at hsm hone
      obtain ⟨wn, hwn⟩ : ∃ wn, wn = wd * n := ⟨_, rfl⟩
      have hwni : (wd : Int) * (n : Int) = (wn : Int) := by rw [hwn]; simp
      have hwnl : wn ≤ 62 * 128 := by rw [hwn]; exact Nat.mul_le_mul hwd2 (by omega)
      have hlong : Bp.long wd n = (wn + 7) / 8 := by unfold Bp.long; rw [hwn]
      rw [hlong] at hsm
      have d1 : ((wn : Int) + 7).tdiv 8 = (((wn + 7) / 8 : Nat) : Int) := by rw [Int.tdiv_eq_ediv_of_nonneg (by omega)]; omega
      have d2 : ((wn : Int) + 7) / 8 = (((wn + 7) / 8 : Nat) : Int) := by omega
      have hn8 : n ≤ 128 := by omega
      generalize (wn + 7) / 8 = T at *
      have HBE := Lib.hid hbel
      generalize (⟨(Bp.packB (acc.map Int.toNat)).toArray⟩ : ByteArray) = out at *
      clear hown hbel hacc hnn hpk hwa hQ hwn hlong hn hal
      rcases Nat.eq_zero_or_pos n with h0 | h0
      · subst h0
        have hQ1 : Q = 1 := hone rfl
        subst hQ1
        by_cases hkl : k < len
        · have i1 : (k : Int) < (len : Int) := by omega
          have i2 : ¬ (k : Int) < 128 := fun h => hgo ⟨hkl, Int.ofNat_lt.1 h⟩
          clear hgo hsm hone
          go_wp2_with (go_at_call 8; refine HP3.out.mono ?_; rintro e1 w2 ⟨rfl, hb⟩; have HB := Lib.hid (HBE.out.trans (hb.mono HBE.out.size)); clear hb)
          go_ret
          exact ⟨rfl, HB.out⟩
        · have i1 : ¬ (k : Int) < (len : Int) := by omega
          clear hgo hsm hone
          go_wp2_with (go_at_call 8; refine HP3.out.mono ?_; rintro e1 w2 ⟨rfl, hb⟩; have HB := Lib.hid (HBE.out.trans (hb.mono HBE.out.size)); clear hb)
          go_ret
          exact ⟨rfl, HB.out⟩
      · rw [if_neg (show ¬ n = 0 by omega)] at hsm
        have n1 : (0 : Int) < (n : Int) := by omega
        have n2 : ((n : Int) == 0) = false := by simp; omega
        by_cases h112 : 112 ≤ n
        · rw [if_pos h112] at hsm
          have n3 : (112 : Int) ≤ (n : Int) := by omega
          have n4 : (Q : Int) ≤ 3 + (T : Int) := by omega
          by_cases hkl : k < len
          · have i1 : (k : Int) < (len : Int) := by omega
            have i2 : ¬ (k : Int) < 128 := fun h => hgo ⟨hkl, Int.ofNat_lt.1 h⟩
            clear hgo hsm hone
            go_wp2_with (go_at_call 8; refine HP3.out.mono ?_; rintro e1 w2 ⟨rfl, hb⟩; have HB := Lib.hid (HBE.out.trans (hb.mono HBE.out.size)); clear hb)
            go_ret
            exact ⟨rfl, HB.out⟩
          · have i1 : ¬ (k : Int) < (len : Int) := by omega
            clear hgo hsm hone
            go_wp2_with (go_at_call 8; refine HP3.out.mono ?_; rintro e1 w2 ⟨rfl, hb⟩; have HB := Lib.hid (HBE.out.trans (hb.mono HBE.out.size)); clear hb)
            go_ret
            exact ⟨rfl, HB.out⟩
        · rw [if_neg h112] at hsm
          have n3 : ¬ (112 : Int) ≤ (n : Int) := by omega
          have n4 : (Q : Int) ≤ 2 + (T : Int) := by omega
          by_cases hkl : k < len
          · have i1 : (k : Int) < (len : Int) := by omega
            have i2 : ¬ (k : Int) < 128 := fun h => hgo ⟨hkl, Int.ofNat_lt.1 h⟩
            clear hgo hsm hone
            go_wp2_with (go_at_call 8; refine HP3.out.mono ?_; rintro e1 w2 ⟨rfl, hb⟩; have HB := Lib.hid (HBE.out.trans (hb.mono HBE.out.size)); clear hb)
            go_ret
            exact ⟨rfl, HB.out⟩
          · have i1 : ¬ (k : Int) < (len : Int) := by omega
            clear hgo hsm hone
            go_wp2_with (go_at_call 8; refine HP3.out.mono ?_; rintro e1 w2 ⟨rfl, hb⟩; have HB := Lib.hid (HBE.out.trans (hb.mono HBE.out.size)); clear hb)
            go_ret
            exact ⟨rfl, HB.out⟩
/-- The statement, walked. -/
theorem small_walk3 (hP : PackC) (hR : ReadC) (a : Option Addr) (len cap : Nat) (zs : List Int) (wd : Int) (w : World) (hv : IntS w (.slice a len cap) zs) (hwf : Wf zs) (hlen : zs.length ≤ 1048576) :
    Calls Try.prog 6 #[.slice a len cap, .int .i64 wd] w fun e w' => e = .returned (.bool true) ∧ Below w.heap.size w w' := by
  by_cases h : wd < 1 ∨ 62 < wd
  · exact small_out hP hR _ wd w h
  · obtain ⟨n, rfl⟩ := Int.eq_ofNat_of_zero_le (by omega : 0 ≤ wd)
    have hz := hv.cellAt.1
    exact small_in hP hR a len cap zs n w (by omega) (by omega) hv hwf (by omega)
end Go.Proofs.Ytjeicjnlhepaiaa
