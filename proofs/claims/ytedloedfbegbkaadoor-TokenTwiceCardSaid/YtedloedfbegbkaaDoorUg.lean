/-
  The document's own Encode; which character as many bytes would be.
-/
import Derived.Test.YtedloedfbegbkaaDoorUr
import Derived.Test.YtedloedfbegbkaaDoorUd
namespace Go.Proofs.YtedloedfbegbkaaDoor
open Go.RowKit

theorem mk_append (a b : List UInt8) : (⟨a.toArray⟩ : ByteArray) ++ ⟨b.toArray⟩ = ⟨(a ++ b).toArray⟩ := by
  apply mk_of
  rw [ByteArray.data_append]
  simp
theorem mk_size (a : List UInt8) : (⟨a.toArray⟩ : ByteArray).size = a.length := by simp [ByteArray.size]

set_option maxRecDepth 100000 in
set_option maxHeartbeats 2000000 in
theorem encodeR_any (w : World) (v : Value) (xs : List Int) (hv : IntS w v xs) (hx : xs.length ≤ 17592186044416) :
    Calls Tryd.prog 21 #[v] w (EncPost w xs) := by
  obtain ⟨a, cap, rfl, _, _, hv⟩ := hv
  have HV := Lib.hid hv
  clear hv
  obtain ⟨n, hn⟩ : ∃ n, n = xs.length := ⟨_, rfl⟩
  have HN := Lib.hid hn
  rw [← hn] at hx ⊢
  clear hn
  go_enter Tryd.func21, Tryd.ntmps21
  go_wp2_with fail
  go_loopg [4, 5] n (fun g s i wx => ∃ (k : Nat) (S : ByteArray), k ≤ n ∧ g = n - k ∧ i = .int .i64 k ∧ s = .string S ∧ S.size ≤ 4 * k ∧ Hid (Ut.allW (xs.take k) = true) ∧ Hid (S = ⟨(Ut.enc (xs.take k)).toArray⟩) ∧ Below w.heap.size w wx)
  case atStart => exact ⟨0, ⟨#[]⟩, Nat.zero_le _, rfl, rfl, rfl, Nat.le_refl _, rfl, rfl, Below.refl _ _⟩
  case round =>
    obtain ⟨k, S, hk, rfl, rfl, rfl, hS4, hA, hS, hbel⟩ := hrel
    by_cases hkn : k < n
    · have i1 : (k : Int) < (n : Int) := by omega
      have kx : k < xs.length := by rw [← HN.out]; exact hkn
      obtain ⟨g, o, rfl, hg, hcu⟩ := HV.out (by omega)
      have c1 : wr.cell? ⟨g, o + k, none⟩ = some (.int .i64 xs[k]) := (hbel.cell (p := ⟨g, o + k, none⟩) hg).trans (hcu k kx)
      have hs1 := Ut.allW_step kx
      have hs2 := Ut.enc_step kx
      have hs3 := @Ut.allW_not xs k kx
      have hw := Lib.hid (wholeR_any xs[k] wr)
      have ho := Lib.hid (fun (h : Ut.whole xs[k] = true) => one_any xs[k] h wr)
      have hrl := Ut.rune_length xs[k]
      clear hcu
      generalize xs[k] = c at *
      have HBE := Lib.hid hbel
      clear hbel
      cases hwc : Ut.whole c
      · rw [hwc] at hw
        have hno := Lib.hid (hs3 hwc)
        clear hs1 hs2 hs3 ho hA hS hrl
        go_wp2_with fail
        refine hw.out.mono ?_
        rintro e w2 ⟨rfl, rfl⟩
        go_wp2_with fail
        go_ret2
        exact ⟨ret_si (by rw [Ut.encS_no hno.out]) (by rw [Ut.encE_no hno.out]), HBE.out⟩
      · rw [hwc] at hw hs1
        have hA2 : Hid (Ut.allW (xs.take (k + 1)) = true) := by show _ = _; rw [hs1, hA.out]; rfl
        have ho2 := Lib.hid (ho.out hwc)
        obtain ⟨T, hT⟩ : ∃ T : ByteArray, T = ⟨(Lib.encodeRune c).toArray⟩ := ⟨_, rfl⟩
        have hTs : T.size ≤ 4 := by rw [hT, mk_size]; exact hrl.2
        have hS2 : Hid (S ++ T = ⟨(Ut.enc (xs.take (k + 1))).toArray⟩) := by show _ = _; rw [hS.out, hT, mk_append, hs2]
        rw [← hT] at ho2
        have hz : ¬ 9223372036854775807 < S.size + T.size := by omega
        have hz2 : Hid ((S ++ T).size ≤ 4 * (k + 1)) := by show _ ≤ _; rw [ByteArray.size_append]; omega
        clear hs1 hs2 hs3 ho hA hS hT hrl
        go_wp2_with fail
        refine hw.out.mono ?_
        rintro e w2 ⟨rfl, rfl⟩
        go_wp2_with fail
        refine ho2.out.mono ?_
        rintro e w2 ⟨rfl, hb2⟩
        have HB2 : Hid (Below w.heap.size w w2) := HBE.out.trans (hb2.mono HBE.out.size)
        clear hb2
        go_wp2_with fail
        go_roundg (n - (k + 1))
        case rel => exact ⟨k + 1, S ++ T, by omega, rfl, by go_num, rfl, hz2.out, hA2, hS2, HB2.out⟩
        case measure => omega
    · obtain rfl : k = n := by omega
      have hfull : xs.take k = xs := List.take_of_length_le (by rw [← HN.out]; exact Nat.le_refl _)
      rw [hfull] at hA hS
      have HBE := Lib.hid hbel
      clear hbel hfull
      go_wp2_with fail
      go_ret2
      exact ⟨ret_si (by rw [hS.out, Ut.encS_yes hA.out]) (by rw [Ut.encE_yes hA.out]), HBE.out⟩

namespace Ut
/-- What is told so far, with the bytes that are left. -/
def told (X : Int) (l : List UInt8) : Int := l.foldl (fun c b => 64 * c + (b.toNat : Int) - 128) X
def leads (n : Nat) : Int := if n = 2 then 192 else if n = 3 then 224 else if n = 4 then 240 else 0
theorem guess_told (l : List UInt8) (h0 : 0 < l.length) (h4 : l.length ≤ 4) : guess l = told ((l.head?.getD 0).toNat - leads l.length) (l.drop 1) := by
  match l, h0, h4 with
  | [a], _, _ => simp [guess, told, leads]
  | [a, b], _, _ => simp [guess, told, leads]
  | [a, b, c], _, _ => simp [guess, told, leads]
  | [a, b, c, d], _, _ => simp [guess, told, leads]
  | _ :: _ :: _ :: _ :: _ :: _, _, h => simp at h
end Ut

set_option maxRecDepth 100000 in
set_option maxHeartbeats 2000000 in
theorem guess_any (w : World) (s : ByteArray) (h0 : 0 < s.size) (h4 : s.size ≤ 4) :
    Calls Tryd.prog 29 #[.string s] w fun e w' => e = .returned (.int .i64 (Ut.guess s.data.toList)) ∧ Below w.heap.size w w' := by
  have hsl : s.data.toList.length = s.size := by simp
  have hg := Ut.guess_told s.data.toList (by omega) (by omega)
  have hhd : (s.data.toList.head?.getD 0) = s[0] := by
    have := drop_cons s 0 h0
    rw [List.drop_zero] at this
    rw [this]
    rfl
  rw [hhd, hsl] at hg
  have HG := Lib.hid hg
  have hb0 := (s[0]).toNat_lt
  have hl : Ut.leads s.size = 0 ∧ s.size = 1 ∨ Ut.leads s.size = 192 ∧ s.size = 2 ∨ Ut.leads s.size = 224 ∧ s.size = 3 ∨ Ut.leads s.size = 240 ∧ s.size = 4 := by
    have : s.size = 1 ∨ s.size = 2 ∨ s.size = 3 ∨ s.size = 4 := by omega
    rcases this with h | h | h | h <;> rw [h] <;> simp [Ut.leads]
  have hlb : 0 ≤ Ut.leads s.size ∧ Ut.leads s.size ≤ 240 := by omega
  clear hg hhd hsl
  have hB : Hid (Below w.heap.size w (w.alloc (.cells #[.int .i64 0, .int .i64 0, .int .i64 192, .int .i64 224, .int .i64 240] 63))) := (Below.refl _ _).alloc (Nat.le_refl _) _
  have hc : ∀ w', Below (w.heap.size + 1) (w.alloc (.cells #[.int .i64 0, .int .i64 0, .int .i64 192, .int .i64 224, .int .i64 240] 63)) w' → w'.cell? ⟨w.heap.size, s.size, none⟩ = some (.int .i64 (Ut.leads s.size)) := by
    intro w' hb
    rw [hb.cell (p := ⟨w.heap.size, s.size, none⟩) (by simp)]
    rw [World.cell?_alloc_at _ _ _ _ rfl]
    rcases hl with ⟨h, h'⟩ | ⟨h, h'⟩ | ⟨h, h'⟩ | ⟨h, h'⟩ <;> rw [h, h'] <;> rfl
  have hc1 := hc _ (Below.refl _ _)
  have hc2 := hc _ ((Below.refl _ _).drew)
  clear hl hc
  generalize Ut.leads s.size = ld at *
  have w1 : wrap64 (s[0].toNat : Int) = (s[0].toNat : Int) := by unfold wrap64; omega
  have w2 : wrap64 ((s[0].toNat : Int) - ld) = (s[0].toNat : Int) - ld := by unfold wrap64; omega
  have hX0 : Hid (-300 ≤ (s[0].toNat : Int) - ld ∧ (s[0].toNat : Int) - ld ≤ 300) := by show _ ∧ _; omega
  have i0 : (0 : Int) < (s.size : Int) := by omega
  have i5 : (s.size : Int) < 5 := by omega
  go_enter Tryd.func29, Tryd.ntmps29
  go_wp2_with fail
  go_quiet (fail)
  try rw [w1, w2]
  have HB2 : Hid (Below w.heap.size w ((w.alloc (.cells #[.int .i64 0, .int .i64 0, .int .i64 192, .int .i64 224, .int .i64 240] 63)).drewN nq)) := belowN hB.out nq
  generalize (w.alloc (.cells #[.int .i64 0, .int .i64 0, .int .i64 192, .int .i64 224, .int .i64 240] 63)).drewN nq = w2 at *
  generalize (s[0].toNat : Int) - ld = X0 at *
  clear hc1 hc2 hB w1 w2
  go_wp2_with fail
  go_loopg [4, 5] (s.size - 1) (fun g c i wx => ∃ (k : Nat) (X : Int), wx = w2 ∧ 1 ≤ k ∧ k ≤ s.size ∧ g = s.size - k ∧ i = .int .i64 k ∧ c = .int .i64 X ∧ Hid ((k = 1 → -300 ≤ X ∧ X ≤ 300) ∧ (k = 2 → -20000 ≤ X ∧ X ≤ 20000) ∧ (k = 3 → -2000000 ≤ X ∧ X ≤ 2000000)) ∧ Hid (Ut.guess s.data.toList = Ut.told X (s.data.toList.drop k)))
  case atStart => exact ⟨1, X0, rfl, Nat.le_refl _, h0, rfl, rfl, rfl, ⟨fun _ => hX0.out, fun h => by omega, fun h => by omega⟩, HG.out⟩
  case round =>
    obtain ⟨k, X, rfl, hk1, hk, rfl, rfl, rfl, hb, hT⟩ := hrel
    by_cases hks : k < s.size
    · have i1 : (k : Int) < (s.size : Int) := by omega
      have hd := drop_cons s k hks
      have hbk := (s[k]).toNat_lt
      have hbX : -2000000 ≤ X ∧ X ≤ 2000000 := by
        have h := hb.out
        have : k = 1 ∨ k = 2 ∨ k = 3 := by omega
        omega
      have w1 : wrap64 (s[k].toNat : Int) = (s[k].toNat : Int) := by unfold wrap64; omega
      have w2' : wrap64 (64 * X) = 64 * X := by unfold wrap64; omega
      have w3 : wrap64 (64 * X + (s[k].toNat : Int)) = 64 * X + (s[k].toNat : Int) := by unfold wrap64; omega
      have w4 : wrap64 (64 * X + (s[k].toNat : Int) - 128) = 64 * X + (s[k].toNat : Int) - 128 := by unfold wrap64; omega
      have hT2 : Hid (Ut.guess s.data.toList = Ut.told (64 * X + (s[k].toNat : Int) - 128) (s.data.toList.drop (k + 1))) := by
        show _ = _
        rw [hT.out, hd]
        rfl
      have hb2 : Hid ((k + 1 = 1 → -300 ≤ 64 * X + (s[k].toNat : Int) - 128 ∧ 64 * X + (s[k].toNat : Int) - 128 ≤ 300) ∧ (k + 1 = 2 → -20000 ≤ 64 * X + (s[k].toNat : Int) - 128 ∧ 64 * X + (s[k].toNat : Int) - 128 ≤ 20000) ∧ (k + 1 = 3 → -2000000 ≤ 64 * X + (s[k].toNat : Int) - 128 ∧ 64 * X + (s[k].toNat : Int) - 128 ≤ 2000000)) := by
        have h := hb.out
        exact ⟨fun h' => by omega, fun h' => by have := h.1 (by omega); omega, fun h' => by have := h.2.1 (by omega); omega⟩
      clear hd hb hT
      go_wp2_with fail
      go_roundg (s.size - (k + 1))
      case rel => exact ⟨k + 1, _, rfl, by omega, by omega, rfl, by go_num, rfl, hb2, hT2⟩
      case measure => omega
    · have hfin : Hid (Ut.guess s.data.toList = X) := by
        show _ = _
        rw [hT.out, drop_all s k (by omega)]
        rfl
      clear hT hb
      go_wp2_with fail
      go_ret
      exact ⟨by rw [hfin.out]; rfl, HB2.out⟩
end Go.Proofs.YtedloedfbegbkaaDoor
