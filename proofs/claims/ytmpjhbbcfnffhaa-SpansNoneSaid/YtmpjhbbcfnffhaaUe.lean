/-
  What Encode answers, the program's and the document's own: the bytes of all characters, or the refusal.
-/
import Derived.Test.YtmpjhbbcfnffhaaUs
import Derived.Test.YtmpjhbbcfnffhaaShelf
namespace Go.Proofs.Ytmpjhbbcfnffhaa
open Go.RowKit

namespace Ut
/-- The bytes of characters, where all are. -/
def encS (l : List Int) : List UInt8 := if allW l = true then enc l else []
def encE (l : List Int) : Int := if allW l = true then 0 else 1
theorem encS_yes {l : List Int} (h : allW l = true) : encS l = enc l := if_pos h
theorem encE_yes {l : List Int} (h : allW l = true) : encE l = 0 := if_pos h
theorem encS_no {l : List Int} (h : allW l = false) : encS l = [] := if_neg (by rw [h]; exact Bool.false_ne_true)
theorem encE_no {l : List Int} (h : allW l = false) : encE l = 1 := if_neg (by rw [h]; exact Bool.false_ne_true)
theorem allW_step {l : List Int} {k : Nat} (h : k < l.length) : allW (l.take (k + 1)) = (allW (l.take k) && whole l[k]) := by
  rw [List.take_succ_eq_append_getElem h, allW_append]
  simp [allW]
theorem enc_step {l : List Int} {k : Nat} (h : k < l.length) : enc (l.take (k + 1)) = enc (l.take k) ++ Lib.encodeRune l[k] := by
  rw [List.take_succ_eq_append_getElem h, enc_snoc]
theorem allW_not {l : List Int} {k : Nat} (h : k < l.length) (hk : whole l[k] = false) : allW l = false := by
  rw [← Bool.not_eq_true, allW_iff]
  intro ha
  have := ha l[k] (List.getElem_mem h)
  rw [hk] at this
  cases this
theorem bytes_rune (c : Int) : bytesV (Lib.encodeRune c) = Lib.runeCells c := by
  unfold bytesV Lib.encodeRune Lib.runeCells
  rw [List.map_map]
  refine List.map_congr_left fun x hx => ?_
  have hb := Lib.encodeRuneZ_byte c x hx
  show Value.int .u8 (((x.toNat.toUInt8).toNat : Nat) : Int) = _
  rw [byteI x hb.1 hb.2]
end Ut

theorem ret_si {s1 s2 : ByteArray} {a b : Int} (h1 : s1 = s2) (h2 : a = b) : Ending.returned (.tuple #[.string s1, .int .i64 a]) = Ending.returned (.tuple #[.string s2, .int .i64 b]) := by rw [h1, h2]
theorem madeB_own (w : World) (B n : Nat) (hB : B ≤ w.heap.size) (hn : n ≤ 1099511627776 * 16) :
    OwnB (w.alloc (.cells (madeCells #[.int .u8 0] n) 5)) B (.slice (some ⟨w.heap.size, 0, none⟩) 0 n) [] :=
  World.ownsRow_made w (madeCells #[.int .u8 0] n) n hB (by unfold maxLen; omega) (by rw [size_madeCells, Nat.mul_one])
theorem makeB (n : Nat) (hn : n ≤ 17592186044416) (w : World) :
    (Instr.makeSlice 61 (.int .i64 0) (.int .i64 (n : Int))).run Try.prog w = .ok (.slice (some ⟨w.heap.size, 0, none⟩) 0 n) (w.alloc (.cells (madeCells #[.int .u8 0] n) 5)) := by
  obtain ⟨ii, hi, hz0, hz1, hz2⟩ := info_parts Try.infoB
  have h := run_make (P := Try.prog) w 61 5 ii (.int .u8 0) Try.underlying61 hi hz0 .i64 .i64 0 (n : Int) (by omega) (by omega) (by rw [hz2]; omega) (by omega)
  rw [hz1, Int.toNat_natCast, Nat.mul_one] at h
  exact h

/-- AppendRune, onto bytes of the call's own. -/
theorem appendRune_any (w : World) (B : Nat) (hB : B ≤ w.heap.size) (v : Value) (l : List UInt8) (c : Int) (h : OwnB w B v l) (hc : 0 ≤ c ∧ c ≤ 1114111) (hl : l.length + 4 ≤ 140737488355328) :
    Calls Try.prog 27 #[v, .int .i32 c] w fun e w' => ∃ v', e = .returned v' ∧ OwnB w' B v' (l ++ Lib.encodeRune c) ∧ Below B w w' := by
  have hown : w.ownsRow B 5 1 v l.length (bytesV l) := h
  refine (Try.utf8_AppendRune_plain B v l.length (bytesV l) c (by omega) (by omega) w hown hl hB).mono ?_
  rintro e w' ⟨v', rfl, h1, o, h2⟩
  refine ⟨v', rfl, ?_, ((Below.refl B w).alloc hB o).grown h2 (by simp; omega) (fun j hj => (hown.lt j hj).1)⟩
  have hr : (Lib.runeCells c).length = (Lib.encodeRune c).length := by rw [← Ut.bytes_rune, bytesV_length]
  unfold OwnB
  rw [List.length_append, ← hr]
  have e : bytesV (l ++ Lib.encodeRune c) = bytesV l ++ Lib.runeCells c := by rw [← Ut.bytes_rune]; simp [bytesV]
  rw [e]
  exact h1

/-- What Encode answers. -/
def EncPost (w : World) (l : List Int) (e : Ending) (w' : World) : Prop :=
  e = .returned (.tuple #[.string ⟨(Ut.encS l).toArray⟩, .int .i64 (Ut.encE l)]) ∧ Below w.heap.size w w'

set_option maxRecDepth 100000 in
set_option maxHeartbeats 2000000 in
theorem encode_any (w : World) (v : Value) (xs : List Int) (hv : IntS w v xs) (hx : xs.length ≤ 17592186044416) :
    Calls Try.prog 22 #[v] w (EncPost w xs) := by
  obtain ⟨a, cap, rfl, _, _, hv⟩ := hv
  have HV := Lib.hid hv
  clear hv
  obtain ⟨n, hn⟩ : ∃ n, n = xs.length := ⟨_, rfl⟩
  have HN := Lib.hid hn
  rw [← hn] at hx ⊢
  clear hn
  have hmk := makeB n hx
  go_enter Try.func22, Try.ntmps22
  go_wp2_with fail
  have HO : Hid (OwnB (w.alloc (.cells (madeCells #[.int .u8 0] n) 5)) w.heap.size (.slice (some ⟨w.heap.size, 0, none⟩) 0 n) []) := madeB_own w w.heap.size n (Nat.le_refl _) (by omega)
  have HB : Hid (Below w.heap.size w (w.alloc (.cells (madeCells #[.int .u8 0] n) 5))) := (Below.refl _ _).alloc (Nat.le_refl _) _
  generalize w.alloc (.cells (madeCells #[.int .u8 0] n) 5) = w1 at *
  clear hmk
  go_loopg [4, 12] n (fun g o i wx => ∃ k : Nat, k ≤ n ∧ g = n - k ∧ i = .int .i64 k ∧ Hid (Ut.allW (xs.take k) = true) ∧ OwnB wx w.heap.size o (Ut.enc (xs.take k)) ∧ Below w.heap.size w wx)
  case atStart => exact ⟨0, Nat.zero_le _, rfl, rfl, rfl, HO.out, HB.out⟩
  case round =>
    obtain ⟨k, hk, rfl, rfl, hA, hown, hbel⟩ := hrel
    by_cases hkn : k < n
    · have i1 : (k : Int) < (n : Int) := by omega
      have kx : k < xs.length := by rw [← HN.out]; exact hkn
      obtain ⟨g, o, rfl, hg, hcu⟩ := HV.out (by omega)
      have c1 : wr.cell? ⟨g, o + k, none⟩ = some (.int .i64 xs[k]) := (hbel.cell (p := ⟨g, o + k, none⟩) hg).trans (hcu k kx)
      have hs1 := Ut.allW_step kx
      have hs2 := Ut.enc_step kx
      have hs3 := @Ut.allW_not xs k kx
      have hl4 : (Ut.enc (xs.take k)).length + 4 ≤ 140737488355328 := by
        have := (Ut.enc_length (xs.take k)).2
        have h2 : (xs.take k).length ≤ k := List.length_take_le _ _
        omega
      have hw := Lib.hid (whole_any xs[k] wr)
      have har := Lib.hid (fun (hc : 0 ≤ xs[k] ∧ xs[k] ≤ 1114111) => appendRune_any wr w.heap.size hbel.size _ _ xs[k] hown hc hl4)
      have hwi := @Ut.whole_iff xs[k]
      rw [← hs2] at har
      clear hcu hs2 hl4
      generalize xs[k] = c at *
      cases hwc : Ut.whole c
      · rw [hwc] at hw
        have hno := Lib.hid (hs3 hwc)
        have HBE := Lib.hid hbel
        clear hs1 hs3 hwi hown hbel har hA
        go_wp2_with fail
        refine hw.out.mono ?_
        rintro e w2 ⟨rfl, rfl⟩
        go_wp2_with fail
        go_ret2
        exact ⟨ret_si (by rw [Ut.encS_no hno.out]) (by rw [Ut.encE_no hno.out]), HBE.out⟩
      · rw [hwc] at hw hs1
        have hc := hwi.1 hwc
        have hA2 : Hid (Ut.allW (xs.take (k + 1)) = true) := by show _ = _; rw [hs1, hA.out]; rfl
        have har2 := Lib.hid (har.out (by omega))
        have HBE := Lib.hid hbel
        clear hs1 hs3 hwi hown hbel har hA
        go_wp2_with fail
        refine hw.out.mono ?_
        rintro e w2 ⟨rfl, rfl⟩
        go_wp2_with fail
        refine har2.out.mono ?_
        rintro e w2 ⟨v2, rfl, hown2, hb2⟩
        have HO2 := Lib.hid hown2
        have HB2 : Hid (Below w.heap.size w w2) := HBE.out.trans hb2
        clear hown2 hb2
        go_wp2_with fail
        go_roundg (n - (k + 1))
        case rel => exact ⟨k + 1, by omega, rfl, by go_num, hA2, HO2.out, HB2.out⟩
        case measure => omega
    · obtain rfl : k = n := by omega
      have hcv := own_conv hown
      have hfull : xs.take k = xs := List.take_of_length_le (by rw [← HN.out]; exact Nat.le_refl _)
      rw [hfull] at hcv hA
      have HBE := Lib.hid hbel
      clear hown hbel hfull
      obtain ⟨S, hS⟩ : ∃ S, S = Ut.enc xs := ⟨_, rfl⟩
      have HS := Lib.hid hS
      rw [← hS] at hcv
      clear hS
      go_wp2_with fail
      go_ret2
      exact ⟨ret_si (by rw [HS.out, Ut.encS_yes hA.out]) (by rw [Ut.encE_yes hA.out]), HBE.out⟩
end Go.Proofs.Ytmpjhbbcfnffhaa
