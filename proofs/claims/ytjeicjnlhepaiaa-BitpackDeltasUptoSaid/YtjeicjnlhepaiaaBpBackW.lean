/-
  What was packed is read back, and what is read are just the bytes in which it is packed: the walk of the statement, over what is asked of Pack and Read.
-/
import Derived.Test.YtjeicjnlhepaiaaBpReadsW
namespace Go.Proofs.Ytjeicjnlhepaiaa
open Go.RowKit

theorem chB_len : ∀ (k : Nat) (l : List Nat), (∀ x ∈ l, x < 9223372036854775808) → (Bp.chB k l).length ≤ 10 * l.length := by
  intro k
  induction k with
  | zero => intro l _; simp [Bp.chB]
  | succ k ih =>
    intro l hl
    simp only [Bp.chB]
    split
    · simp
    · have h1 := ih (l.drop 128) (fun x hx => hl x (List.mem_of_mem_drop hx))
      have h2 := Bp.wd_lt (l.take 128) (fun x hx => hl x (List.mem_of_mem_take hx))
      have h3 : Bp.wd (l.take 128) * (l.take 128).length ≤ 63 * (l.take 128).length := Nat.mul_le_mul_right _ h2
      rw [List.length_drop] at h1
      rw [List.length_append, Bp.blkB_length]
      unfold Bp.long
      have h4 : (l.take 128).length = min 128 l.length := List.length_take
      omega
theorem pack_len (l : List Nat) (hl : ∀ x ∈ l, x < 9223372036854775808) : (Bp.packB l).length ≤ 9 + 10 * l.length := by
  have h1 := chB_len l.length l hl
  have h2 := numB_length (l.length : Int)
  unfold Bp.packB
  rw [List.length_append]
  omega
theorem read_len (s : List UInt8) (l : List Nat) (z : Nat) (e : Int) (h : Bp.rdPack s = (l, z, e)) : l.length ≤ 128 * s.length := by
  obtain ⟨_, h2, h3⟩ := Bp.pack_one s l z e h
  by_cases he : e = 0
  · obtain ⟨h4, h5, h6, h7⟩ := h3 he
    have h8 := congrArg List.length h6
    unfold Bp.packB at h8
    rw [List.length_append, List.length_take] at h8
    have h9 : ∀ (k : Nat) (l : List Nat), l.length ≤ k → l.length ≤ 128 * (Bp.chB k l).length := by
      intro k
      induction k with
      | zero => intro l h; omega
      | succ k ih =>
        intro l h
        simp only [Bp.chB]
        split
        · omega
        · have := ih (l.drop 128) (by rw [List.length_drop]; omega)
          rw [List.length_drop] at this
          rw [List.length_append, Bp.blkB_length]
          omega
    have := h9 l.length l (Nat.le_refl _)
    omega
  · rw [(h2 he).1]
    simp
theorem ofNat_nn (l : List Nat) : ∀ z ∈ l.map Int.ofNat, 0 ≤ z := by
  intro z hz
  obtain ⟨x, _, rfl⟩ := List.mem_map.1 hz
  exact Int.natCast_nonneg x
theorem ofNat_wf (l : List Nat) (h : ∀ x ∈ l, x < 9223372036854775808) : Wf (l.map Int.ofNat) := by
  intro z hz
  obtain ⟨x, hx, rfl⟩ := List.mem_map.1 hz
  have := h x hx
  constructor
  · have := Int.natCast_nonneg x
    show -9223372036854775808 ≤ (x : Int)
    omega
  · show (x : Int) ≤ 9223372036854775807
    omega
theorem packZ_ofNat (l : List Nat) : packZ (l.map Int.ofNat) = (Bp.packB l, 0) := by
  rw [packZ_nn _ (ofNat_nn l), ofNat_toNat_map]

set_option maxRecDepth 100000 in
set_option maxHeartbeats 2000000 in
theorem back_walk3 (hP : PackC) (hR : ReadC) (v : Value) (zs : List Int) (s : ByteArray) (w : World) (hv : IntS w v zs) (hwf : Wf zs) (hlen : zs.length ≤ 1048576) (hs : s.size ≤ 1048576) :
    Calls Try.prog 5 #[v, .string s] w fun e w' => e = .returned (.bool true) ∧ Below w.heap.size w w' := by
  have hp := Lib.hid (hP w v zs hv (by omega) hwf)
  obtain ⟨l2, z2, e2, hrd⟩ : ∃ l z e, Bp.rdPack s.data.toList = (l, z, e) := ⟨_, _, _, rfl⟩
  have hr2 : Hid (∀ w', Calls Try.prog 12 #[.string s] w' (ReadPost w'.heap.size w' l2 z2 e2)) := fun w' => by
    have h := hR w' s (by omega)
    rw [hrd] at h
    exact h
  have hone := Bp.pack_one _ _ _ _ hrd
  have hl2 := read_len _ _ _ _ hrd
  have hsl : s.data.toList.length = s.size := by simp
  rw [hsl] at hl2
  have HV := Lib.hid hv
  by_cases hneg : ∃ z ∈ zs, z < 0
  · have hpz : packZ zs = ([], 1) := by unfold packZ; rw [if_pos hneg]
    rw [hpz] at hp
    clear hneg hpz
    by_cases he2 : e2 = 0
    · subst he2
      obtain ⟨o1, o2, o3, o4⟩ := hone.2.2 rfl
      go_enter Try.func5, Try.ntmps5
      go_wp2_with fail
      refine hp.out.mono ?_
      rintro e1 w1 ⟨rfl, hb1⟩
      have HB := Lib.hid hb1
      clear hb1
      go_wp2_with fail
      refine (awake3_any hP hR _).mono ?_
      rintro e1 w2 ⟨rfl, hb2⟩
      have HB := Lib.hid (HB.out.trans (hb2.mono HB.out.size))
      clear hb2
      go_wp2_with fail
      refine (hr2.out _).mono ?_
      rintro e1 w6 ⟨vm, rfl, hom, hb6⟩
      have HB := Lib.hid (HB.out.trans (hb6.mono HB.out.size))
      have HP2 := Lib.hid (hP w6 vm _ (hom.ints (by rw [List.length_map]; omega)) (by rw [List.length_map]; omega) (ofNat_wf l2 o2))
      rw [packZ_ofNat] at HP2
      clear hb6 hom
      have z1 : (z2 : Int) ≤ (s.size : Int) := by omega
      have hq : (Bp.packB l2 == (s.extract 0 z2).toList) = true := by
        rw [ByteArray.toList_eq, o3, Lib.extract_data]
        simp
      clear o1 o2 o3 o4 hl2 hone
      generalize Bp.packB l2 = q2 at *
      go_wp2_with fail
      refine HP2.out.mono ?_
      rintro e1 w7 ⟨rfl, hb7⟩
      have HB := Lib.hid (HB.out.trans (hb7.mono HB.out.size))
      clear hb7
      go_wp2_with fail
      go_ret
      exact ⟨rfl, HB.out⟩
    · obtain ⟨rfl, rfl⟩ := hone.2.1 he2
      clear hone hl2
      go_enter Try.func5, Try.ntmps5
      go_wp2_with fail
      refine hp.out.mono ?_
      rintro e1 w1 ⟨rfl, hb1⟩
      have HB := Lib.hid hb1
      clear hb1
      go_wp2_with fail
      refine (awake3_any hP hR _).mono ?_
      rintro e1 w2 ⟨rfl, hb2⟩
      have HB := Lib.hid (HB.out.trans (hb2.mono HB.out.size))
      clear hb2
      go_wp2_with fail
      refine (hr2.out _).mono ?_
      rintro e1 w6 ⟨vm, rfl, hom, hb6⟩
      have HB := Lib.hid (HB.out.trans (hb6.mono HB.out.size))
      obtain ⟨am, capm, rfl, hx1, hx2, hx3⟩ := hom.ints (by simp)
      clear hx1 hx2 hx3 hb6 hom
      have he2' : (e2 != 0) = true := by simpa using he2
      go_wp2_with fail
      go_ret
      exact ⟨rfl, HB.out⟩
  · have hnn : ∀ z ∈ zs, 0 ≤ z := fun z hz => by
      have : ¬ z < 0 := fun h => hneg ⟨z, hz, h⟩
      omega
    rw [packZ_nn zs hnn] at hp
    have hz3 : (zs.map Int.toNat).map Int.ofNat = zs := by
      rw [List.map_map]
      have h : ∀ z ∈ zs, (Int.ofNat ∘ Int.toNat) z = id z := fun z hz => by
        have := hnn z hz
        show ((z.toNat : Nat) : Int) = z
        omega
      rw [List.map_congr_left h, List.map_id]
    have hl63 : ∀ x ∈ zs.map Int.toNat, x < 9223372036854775808 := by
      intro x hx
      obtain ⟨z, hz, rfl⟩ := List.mem_map.1 hx
      have := hwf z hz
      omega
    have hpl := pack_len _ hl63
    rw [List.length_map] at hpl
    obtain ⟨pb, hpb⟩ : ∃ pb : ByteArray, (⟨(Bp.packB (zs.map Int.toNat)).toArray⟩ : ByteArray) = pb := ⟨_, rfl⟩
    have hpd : pb.data.toList = Bp.packB (zs.map Int.toNat) := by rw [← hpb]
    have hps : pb.size = (Bp.packB (zs.map Int.toNat)).length := by rw [← hpd]; simp
    have hr1 : Hid (∀ w', Calls Try.prog 12 #[.string (pb ++ s)] w' (ReadPost w'.heap.size w' (zs.map Int.toNat) pb.size 0)) := fun w' => by
      have h := hR w' (pb ++ s) (by rw [ByteArray.size_append]; omega)
      have e : (pb ++ s).data.toList = Bp.packB (zs.map Int.toNat) ++ s.data.toList := by rw [ByteArray.data_append, Array.toList_append, hpd]
      rw [e, Bp.pack_back _ _ (by rw [List.length_map]; omega) hl63, ← hps] at h
      exact h
    have hn1 : ¬ 9223372036854775807 < pb.size + s.size := by omega
    rw [hpb] at hp
    clear hneg hnn hl63 hpl hpb hpd hps hv
    by_cases he2 : e2 = 0
    · subst he2
      obtain ⟨o1, o2, o3, o4⟩ := hone.2.2 rfl
      go_enter Try.func5, Try.ntmps5
      go_wp2_with fail
      refine hp.out.mono ?_
      rintro e1 w1 ⟨rfl, hb1⟩
      have HB := Lib.hid hb1
      clear hb1
      go_wp2_with fail
      refine (awake3_any hP hR _).mono ?_
      rintro e1 w2 ⟨rfl, hb2⟩
      have HB := Lib.hid (HB.out.trans (hb2.mono HB.out.size))
      clear hb2
      go_wp2_with fail
      refine (hr1.out _).mono ?_
      rintro e1 w3 ⟨v3, rfl, ho3, hb3⟩
      have HB := Lib.hid (HB.out.trans (hb3.mono HB.out.size))
      have HNU := Lib.hid (numbers_eq w3 v3 v _ zs (ho3.ints (by rw [List.length_map, List.length_map]; omega)) (HV.out.below HB.out (Nat.le_refl _)) (by rw [List.length_map, List.length_map]; omega) (by omega) hz3)
      clear hb3 ho3 hz3
      go_wp2_with fail
      refine HNU.out.mono ?_
      rintro e1 w4 ⟨rfl, hb4⟩
      have HB := Lib.hid (HB.out.trans (hb4.mono HB.out.size))
      clear hb4 HNU
      go_wp2_with fail
      refine (hr2.out _).mono ?_
      rintro e1 w6 ⟨vm, rfl, hom, hb6⟩
      have HB := Lib.hid (HB.out.trans (hb6.mono HB.out.size))
      have HP2 := Lib.hid (hP w6 vm _ (hom.ints (by rw [List.length_map]; omega)) (by rw [List.length_map]; omega) (ofNat_wf l2 o2))
      rw [packZ_ofNat] at HP2
      clear hb6 hom
      have z1 : (z2 : Int) ≤ (s.size : Int) := by omega
      have hq : (Bp.packB l2 == (s.extract 0 z2).toList) = true := by
        rw [ByteArray.toList_eq, o3, Lib.extract_data]
        simp
      clear o1 o2 o3 o4 hl2 hone
      generalize Bp.packB l2 = q2 at *
      go_wp2_with fail
      refine HP2.out.mono ?_
      rintro e1 w7 ⟨rfl, hb7⟩
      have HB := Lib.hid (HB.out.trans (hb7.mono HB.out.size))
      clear hb7
      go_wp2_with fail
      go_ret
      exact ⟨rfl, HB.out⟩
    · obtain ⟨rfl, rfl⟩ := hone.2.1 he2
      clear hone hl2
      go_enter Try.func5, Try.ntmps5
      go_wp2_with fail
      refine hp.out.mono ?_
      rintro e1 w1 ⟨rfl, hb1⟩
      have HB := Lib.hid hb1
      clear hb1
      go_wp2_with fail
      refine (awake3_any hP hR _).mono ?_
      rintro e1 w2 ⟨rfl, hb2⟩
      have HB := Lib.hid (HB.out.trans (hb2.mono HB.out.size))
      clear hb2
      go_wp2_with fail
      refine (hr1.out _).mono ?_
      rintro e1 w3 ⟨v3, rfl, ho3, hb3⟩
      have HB := Lib.hid (HB.out.trans (hb3.mono HB.out.size))
      have HNU := Lib.hid (numbers_eq w3 v3 v _ zs (ho3.ints (by rw [List.length_map, List.length_map]; omega)) (HV.out.below HB.out (Nat.le_refl _)) (by rw [List.length_map, List.length_map]; omega) (by omega) hz3)
      clear hb3 ho3 hz3
      go_wp2_with fail
      refine HNU.out.mono ?_
      rintro e1 w4 ⟨rfl, hb4⟩
      have HB := Lib.hid (HB.out.trans (hb4.mono HB.out.size))
      clear hb4 HNU
      go_wp2_with fail
      refine (hr2.out _).mono ?_
      rintro e1 w6 ⟨vm, rfl, hom, hb6⟩
      have HB := Lib.hid (HB.out.trans (hb6.mono HB.out.size))
      obtain ⟨am, capm, rfl, hx1, hx2, hx3⟩ := hom.ints (by simp)
      clear hx1 hx2 hx3 hb6 hom
      have he2' : (e2 != 0) = true := by simpa using he2
      go_wp2_with fail
      go_ret
      exact ⟨rfl, HB.out⟩
end Go.Proofs.Ytjeicjnlhepaiaa
