/-
  What the program's Pack answers.
-/
import Derived.Test.YtokdjaljeckghaaPk
namespace Go.Proofs.Ytokdjaljeckghaa
open Go.RowKit
theorem chB_len : ∀ (k : Nat) (l : List Nat), (∀ x ∈ l, x < 9223372036854775808) → (Bp.chB k l).length ≤ 10 * l.length := by
  intro k
  induction k with
  | zero => intro l _; simp [Bp.chB]
  | succ k ih =>
    intro l hl
    simp only [Bp.chB]
    split
    · simp
    · have h1 := ih (l.drop 128) (fun x hx => hl x (List.mem_of_mem_drop hx))
      have h2 := Bp.wd_lt (l.take 128) (fun x hx => hl x (List.mem_of_mem_take hx))
      have h3 : Bp.wd (l.take 128) * (l.take 128).length ≤ 63 * (l.take 128).length := Nat.mul_le_mul_right _ h2
      rw [List.length_drop] at h1
      rw [List.length_append, Bp.blkB_length]
      unfold Bp.long
      have h4 : (l.take 128).length = min 128 l.length := List.length_take
      omega
theorem pack_len (l : List Nat) (hl : ∀ x ∈ l, x < 9223372036854775808) : (Bp.packB l).length ≤ 9 + 10 * l.length := by
  have h1 := chB_len l.length l hl
  have h2 := numB_length (l.length : Int)
  unfold Bp.packB
  rw [List.length_append]
  omega
/-- What is packed of numbers from 0 on, small ones. -/
structure Pkd (zs : List Int) (B : List UInt8) : Prop where
  is : packZ zs = (B, 0)
  wf : Wf zs
  few : zs.length ≤ 1073741824
  len : B.length ≤ 9 + 10 * zs.length
theorem pkd_of {zs : List Int} (h : ∀ z ∈ zs, 0 ≤ z ∧ z ≤ 9223372036854775807) (hl : zs.length ≤ 1073741824) : Pkd zs (Bp.packB (zs.map Int.toNat)) := by
  refine ⟨packZ_nat fun z hz => (h z hz).1, fun z hz => ⟨by have := h z hz; omega, (h z hz).2⟩, hl, ?_⟩
  have := pack_len (zs.map Int.toNat) (fun x hx => by
    obtain ⟨z, hz, rfl⟩ := List.mem_map.1 hx
    have := h z hz
    omega)
  rwa [List.length_map] at this
theorem pack_one (w : World) (v : Value) (zs : List Int) (B : List UInt8) (h : Pkd zs B) (hv : IntS w v zs) :
    Calls Try.prog 26 #[v] w fun e' w' => e' = .returned (.tuple #[.string ⟨B.toArray⟩, .int .i64 0]) ∧ Below w.heap.size w w' := by
  have := pack_c w v zs hv h.few h.wf
  rwa [h.is] at this
theorem packR_one (w : World) (v : Value) (zs : List Int) (B : List UInt8) (h : Pkd zs B) (hv : IntS w v zs) :
    Calls Try.prog 29 #[v] w fun e' w' => e' = .returned (.tuple #[.string ⟨B.toArray⟩, .int .i64 0]) ∧ Below w.heap.size w w' := by
  have := packR_c w v zs hv h.few h.wf
  rwa [h.is] at this
theorem chk_pkd {d : List Pt.Po} (h : Pt.chk (-1) d = 0) (hn2 : (Pt.plcs d).length ≤ 1073741824) :
    Pkd (Pt.docs d) (Bp.packB ((Pt.docs d).map Int.toNat)) ∧ Pkd (cntsI d) (Bp.packB (Pt.cnts d)) ∧ Pkd (Pt.plcs d) (Bp.packB ((Pt.plcs d).map Int.toNat)) := by
  have hl := Pt.chk_len h
  refine ⟨pkd_of (fun z hz => by have := Pt.docs_ok h z hz; omega) (by unfold Pt.docs; rw [dl_length, List.length_map]; omega), ?_, pkd_of (fun z hz => by have := Pt.plcs_ok h z hz; omega) hn2⟩
  rw [← (cntsI_nat d).2]
  refine pkd_of (fun z hz => ?_) (by unfold cntsI Pt.cnts; rw [List.length_map, List.length_map]; omega)
  obtain ⟨n, hn, rfl⟩ := List.mem_map.1 hz
  obtain ⟨p, hp, rfl⟩ := List.mem_map.1 hn
  have := Pt.chkA_len (Pt.chk_mem h p hp).2.2.2
  show 0 ≤ ((p.ats.length : Nat) : Int) ∧ ((p.ats.length : Nat) : Int) ≤ _
  omega
/-- The first parts of what is packed. -/
def parts (a b c : List UInt8) : Nat → List UInt8
  | 0 => []
  | 1 => a
  | 2 => a ++ b
  | _ => a ++ (b ++ c)
theorem parts_le (a b c : List UInt8) (k : Nat) : (parts a b c k).length ≤ a.length + b.length + c.length := by
  match k with
  | 0 => exact Nat.zero_le _
  | 1 => show a.length ≤ _; omega
  | 2 => show (a ++ b).length ≤ _; rw [List.length_append]; omega
  | k + 3 => show (a ++ (b ++ c)).length ≤ _; rw [List.length_append, List.length_append]; omega
theorem new_isB (w : World) (B : Nat) (hB : B ≤ w.heap.size) : IsB B w.heap.size [] (w.alloc (.cells #[.pointer none, .slice none 0 0] 56)) :=
  .inl ⟨hB, _, Go.Deep.blk_alloc_new _ _, World.ownsRow_nil _ _ _ _, fun e => by cases e⟩
set_option maxRecDepth 100000 in
set_option maxHeartbeats 4000000 in
theorem pack_any (w : World) (F : Nat → Prop) (v : Value) (d : List Pt.Po) (h : PoS F w v d) (hn2 : (Pt.plcs d).length ≤ 1073741824) :
    Calls Try.prog 11 #[v] w fun e w' => e = .returned (.tuple #[.string ⟨(Pt.pack d).1.toArray⟩, .int .i64 (Pt.pack d).2]) ∧ Below w.heap.size w w' := by
  have hck := Lib.hid (check_any w F v d h)
  obtain ⟨a, cap, hv, _, _, _⟩ := id h
  obtain ⟨n, hn⟩ : ∃ n, n = d.length := ⟨_, rfl⟩
  rw [← hn] at hv
  by_cases hc : Pt.chk (-1) d = 0
  · have hP : Hid (Pt.pack d = (Pt.bytes d, 0)) := by show _ = _; unfold Pt.pack; rw [if_pos hc]
    rw [hc] at hck
    have hlo := Lib.hid (fun (wx : World) (hb : Below w.heap.size w wx) => listsOf_any wx F v d (h.below hb) (by have := Pt.chk_len hc; omega) hn2)
    obtain ⟨k1, k2, k3⟩ := chk_pkd hc hn2
    have hby : Hid (Pt.bytes d = parts (Bp.packB ((Pt.docs d).map Int.toNat)) (Bp.packB (Pt.cnts d)) (Bp.packB ((Pt.plcs d).map Int.toNat)) 3) := rfl
    have hlen : Hid (∀ k, (parts (Bp.packB ((Pt.docs d).map Int.toNat)) (Bp.packB (Pt.cnts d)) (Bp.packB ((Pt.plcs d).map Int.toNat)) k).length ≤ 34359738368) := fun k => by
      have e0 := parts_le (Bp.packB ((Pt.docs d).map Int.toNat)) (Bp.packB (Pt.cnts d)) (Bp.packB ((Pt.plcs d).map Int.toNat)) k
      have e1 := k1.len
      have e2 := k2.len
      have e3 := k3.len
      have f1 := k1.few
      have f2 := k2.few
      have f3 := k3.few
      omega
    have K1 := Lib.hid k1
    have K2 := Lib.hid k2
    have K3 := Lib.hid k3
    rw [hP.out, hby.out]
    clear hP hby k1 k2 k3 hc h hn
    generalize Bp.packB ((Pt.docs d).map Int.toNat) = pA at *
    generalize Bp.packB (Pt.cnts d) = pB at *
    generalize Bp.packB ((Pt.plcs d).map Int.toNat) = pC at *
    generalize Pt.docs d = zA at *
    generalize cntsI d = zB at *
    generalize Pt.plcs d = zC at *
    subst hv
    go_enter Try.func11, Try.ntmps11
    go_wp2_with (first
      | (go_at_call 14; refine hck.out.mono ?_; rintro e1 w1 ⟨rfl, hb1⟩; have HB1 := Lib.hid hb1; have HI1 := Lib.hid (new_isB w1 w.heap.size hb1.size); have HB2 := Lib.hid (hb1.alloc hb1.size (.cells #[.pointer none, .slice none 0 0] 56)); clear hb1)
      | (go_at_call 25; refine (hlo.out _ HB2.out).mono ?_; rintro e1 w3 ⟨va, vb, vc, rfl, hA, hB, hC, hb3⟩; have HB3 := Lib.hid (HB2.out.trans (hb3.mono HB2.out.size)); have HI3 := Lib.hid (isB_keep HI1.out fun k hk => hb3.block k hk); have HA := Lib.hid (hA.base HB2.out.size); have HB := Lib.hid (hB.base HB2.out.size); have HC := Lib.hid (hC.base HB2.out.size); clear hA hB hC hb3 HI1 HB1 HB2))
    obtain ⟨b, hb⟩ : ∃ b, b = w1.heap.size := ⟨_, rfl⟩
    rw [← hb] at HI3 ⊢
    clear hb hck hlo
    obtain ⟨a1, c1, f1⟩ := HA.out.form
    obtain ⟨a2, c2, f2⟩ := HB.out.form
    obtain ⟨a3, c3, f3⟩ := HC.out.form
    obtain ⟨l1, e1⟩ : ∃ l, l = zA.length := ⟨_, rfl⟩
    obtain ⟨l2, e2⟩ : ∃ l, l = zB.length := ⟨_, rfl⟩
    obtain ⟨l3, e3⟩ : ∃ l, l = zC.length := ⟨_, rfl⟩
    rw [← e1] at f1
    rw [← e2] at f2
    rw [← e3] at f3
    clear e1 e2 e3
    subst f1 f2 f3
    have ix0 : ∀ w : World, (Instr.index 58 (.agg #[.slice a1 l1 c1, .slice a2 l2 c2, .slice a3 l3 c3]) (.int .i64 0)).run Try.prog w = .ok (.slice a1 l1 c1) w := fun _ => by kernel_rfl
    have ix1 : ∀ w : World, (Instr.index 58 (.agg #[.slice a1 l1 c1, .slice a2 l2 c2, .slice a3 l3 c3]) (.int .i64 1)).run Try.prog w = .ok (.slice a2 l2 c2) w := fun _ => by kernel_rfl
    have ix2 : ∀ w : World, (Instr.index 58 (.agg #[.slice a1 l1 c1, .slice a2 l2 c2, .slice a3 l3 c3]) (.int .i64 2)).run Try.prog w = .ok (.slice a3 l3 c3) w := fun _ => by kernel_rfl
    go_loopg [17] 3 (fun g i wx => ∃ k : Nat, k ≤ 3 ∧ g = 3 - k ∧ i = .int .i64 k ∧ IsB w.heap.size b (Lib.byteCells (parts pA pB pC k)) wx ∧ IntKept w3 wx ∧ Below w.heap.size w wx)
    case atStart => exact ⟨0, Nat.zero_le _, rfl, rfl, HI3.out, IntKept.refl _, HB3.out⟩
    case round =>
      clear HI3 HB3
      obtain ⟨k, hk, rfl, rfl, hI, hik, hbel⟩ := hrel
      have HI := Lib.hid hI
      have HK := Lib.hid hik
      have HBE := Lib.hid hbel
      clear hI hik hbel
      rcases (show k = 0 ∨ k = 1 ∨ k = 2 ∨ k = 3 by omega) with rfl | rfl | rfl | rfl
      · have hpk := Lib.hid (pack_one wr (.slice a1 l1 c1) zA pA K1.out ((HA.out.kept HK.out).intF.ints))
        have hws := Lib.hid (fun (wx : World) (hb : Below wr.heap.size wr wx) => writeString_any w.heap.size b (Lib.byteCells (parts pA pB pC 0)) ⟨pA.toArray⟩ wx (isB_keep HI.out fun q hq => hb.block q hq) (by rw [Lib.byteCells_length]; have e1 := hlen.out 0; have e2 := K1.out.len; have e3 := K1.out.few; show _ + pA.toArray.size ≤ _; rw [List.size_toArray]; omega) (Nat.le_trans HBE.out.size hb.size))
        go_wp2_with (first
          | (go_at_call 26; refine hpk.out.mono ?_; rintro e1 w4 ⟨rfl, hb4⟩; have HB4 := Lib.hid hb4; clear hb4)
          | (go_at_call 27; refine (hws.out _ HB4.out).mono ?_; rintro e1 w5 ⟨rfl, hI5, hb5, hk5⟩; have HB5 := Lib.hid ((HBE.out.trans (HB4.out.mono HBE.out.size)).trans hb5); have HI5 : Hid (IsB w.heap.size b (Lib.byteCells (parts pA pB pC 1)) w5) := (by rw [strCells_mk, byteCells_append] at hI5; exact hI5); have HK5 := Lib.hid ((HK.out.trans (IntKept.of_below HB4.out)).trans hk5); clear hI5 hb5 hk5))
        go_roundg 2
        case rel => exact ⟨1, by omega, rfl, by go_num, HI5.out, HK5.out, HB5.out⟩
        case measure => omega
      · have hpk := Lib.hid (pack_one wr (.slice a2 l2 c2) zB pB K2.out ((HB.out.kept HK.out).intF.ints))
        have hws := Lib.hid (fun (wx : World) (hb : Below wr.heap.size wr wx) => writeString_any w.heap.size b (Lib.byteCells (parts pA pB pC 1)) ⟨pB.toArray⟩ wx (isB_keep HI.out fun q hq => hb.block q hq) (by rw [Lib.byteCells_length]; have e1 := hlen.out 1; have e2 := K2.out.len; have e3 := K2.out.few; show _ + pB.toArray.size ≤ _; rw [List.size_toArray]; omega) (Nat.le_trans HBE.out.size hb.size))
        go_wp2_with (first
          | (go_at_call 26; refine hpk.out.mono ?_; rintro e1 w4 ⟨rfl, hb4⟩; have HB4 := Lib.hid hb4; clear hb4)
          | (go_at_call 27; refine (hws.out _ HB4.out).mono ?_; rintro e1 w5 ⟨rfl, hI5, hb5, hk5⟩; have HB5 := Lib.hid ((HBE.out.trans (HB4.out.mono HBE.out.size)).trans hb5); have HI5 : Hid (IsB w.heap.size b (Lib.byteCells (parts pA pB pC 2)) w5) := (by rw [strCells_mk, byteCells_append] at hI5; exact hI5); have HK5 := Lib.hid ((HK.out.trans (IntKept.of_below HB4.out)).trans hk5); clear hI5 hb5 hk5))
        go_roundg 1
        case rel => exact ⟨2, by omega, rfl, by go_num, HI5.out, HK5.out, HB5.out⟩
        case measure => omega
      · have hpk := Lib.hid (pack_one wr (.slice a3 l3 c3) zC pC K3.out ((HC.out.kept HK.out).intF.ints))
        have hws := Lib.hid (fun (wx : World) (hb : Below wr.heap.size wr wx) => writeString_any w.heap.size b (Lib.byteCells (parts pA pB pC 2)) ⟨pC.toArray⟩ wx (isB_keep HI.out fun q hq => hb.block q hq) (by rw [Lib.byteCells_length]; have e1 := hlen.out 2; have e2 := K3.out.len; have e3 := K3.out.few; show _ + pC.toArray.size ≤ _; rw [List.size_toArray]; omega) (Nat.le_trans HBE.out.size hb.size))
        go_wp2_with (first
          | (go_at_call 26; refine hpk.out.mono ?_; rintro e1 w4 ⟨rfl, hb4⟩; have HB4 := Lib.hid hb4; clear hb4)
          | (go_at_call 27; refine (hws.out _ HB4.out).mono ?_; rintro e1 w5 ⟨rfl, hI5, hb5, hk5⟩; have HB5 := Lib.hid ((HBE.out.trans (HB4.out.mono HBE.out.size)).trans hb5); have HI5 : Hid (IsB w.heap.size b (Lib.byteCells (parts pA pB pC 3)) w5) := (by rw [strCells_mk, byteCells_append] at hI5; rw [show parts pA pB pC 2 ++ pC = parts pA pB pC 3 from List.append_assoc ..] at hI5; exact hI5); have HK5 := Lib.hid ((HK.out.trans (IntKept.of_below HB4.out)).trans hk5); clear hI5 hb5 hk5))
        go_roundg 0
        case rel => exact ⟨3, by omega, rfl, by go_num, HI5.out, HK5.out, HB5.out⟩
        case measure => omega
      · have hst := Lib.hid (Try.Builder_String_any w.heap.size b (parts pA pB pC 3) wr HI.out HBE.out.size)
        go_wp2_with (go_at_call 28; refine hst.out.mono ?_; rintro e1 w5 ⟨rfl, hb5⟩; have HB5 := Lib.hid (HBE.out.trans hb5); clear hb5)
        go_ret2
        exact ⟨rfl, HB5.out⟩
  · have hP : Hid (Pt.pack d = ([], Pt.chk (-1) d)) := by show _ = _; unfold Pt.pack; rw [if_neg hc]
    rw [hP.out]
    obtain ⟨c, hcc⟩ : ∃ c, c = Pt.chk (-1) d := ⟨_, rfl⟩
    rw [← hcc] at hck hc ⊢
    clear hcc hP
    have hne : ((c : Int) != 0) = true := by simpa using hc
    clear hc h hn
    subst hv
    go_enter Try.func11, Try.ntmps11
    go_wp2_with (go_at_call 14; refine hck.out.mono ?_; rintro e1 w1 ⟨rfl, hb1⟩; have HB1 := Lib.hid hb1; clear hb1)
    go_ret2
    exact ⟨rfl, HB1.out⟩
end Go.Proofs.Ytokdjaljeckghaa
