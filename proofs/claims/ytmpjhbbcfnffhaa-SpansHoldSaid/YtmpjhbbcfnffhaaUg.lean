/-
  The document's own Encode; which character as many bytes would be.
-/
import Derived.Test.YtmpjhbbcfnffhaaUr
import Derived.Test.YtmpjhbbcfnffhaaMn
namespace Go.Proofs.Ytmpjhbbcfnffhaa
open Go.RowKit

theorem mk_append (a b : List UInt8) : (⟨a.toArray⟩ : ByteArray) ++ ⟨b.toArray⟩ = ⟨(a ++ b).toArray⟩ := by
  apply mk_of
  rw [ByteArray.data_append]
  simp
theorem mk_size (a : List UInt8) : (⟨a.toArray⟩ : ByteArray).size = a.length := by simp [ByteArray.size]

set_option maxRecDepth 100000 in
set_option maxHeartbeats 2000000 in
theorem encodeR_any (w : World) (v : Value) (xs : List Int) (hv : IntS w v xs) (hx : xs.length ≤ 17592186044416) :
    Calls Try.prog 17 #[v] w (EncPost w xs) := by
  obtain ⟨a, cap, rfl, _, _, hv⟩ := hv
  have HV := Lib.hid hv
  clear hv
  obtain ⟨n, hn⟩ : ∃ n, n = xs.length := ⟨_, rfl⟩
  have HN := Lib.hid hn
  rw [← hn] at hx ⊢
  clear hn
  go_enter Try.func17, Try.ntmps17
  go_wp2_with fail
  go_loopg [4, 5] n (fun g s i wx => ∃ (k : Nat) (S : ByteArray), k ≤ n ∧ g = n - k ∧ i = .int .i64 k ∧ s = .string S ∧ S.size ≤ 4 * k ∧ Hid (Ut.allW (xs.take k) = true) ∧ Hid (S = ⟨(Ut.enc (xs.take k)).toArray⟩) ∧ Below w.heap.size w wx)
  case atStart => exact ⟨0, ⟨#[]⟩, Nat.zero_le _, rfl, rfl, rfl, Nat.le_refl _, rfl, rfl, Below.refl _ _⟩
  case round =>
    obtain ⟨k, S, hk, rfl, rfl, rfl, hS4, hA, hS, hbel⟩ := hrel
    by_cases hkn : k < n
    · have i1 : (k : Int) < (n : Int) := by omega
      have kx : k < xs.length := by rw [← HN.out]; exact hkn
      obtain ⟨g, o, rfl, hg, hcu⟩ := HV.out (by omega)
      have c1 : wr.cell? ⟨g, o + k, none⟩ = some (.int .i64 xs[k]) := (hbel.cell (p := ⟨g, o + k, none⟩) hg).trans (hcu k kx)
      have hs1 := Ut.allW_step kx
      have hs2 := Ut.enc_step kx
      have hs3 := @Ut.allW_not xs k kx
      have hw := Lib.hid (wholeR_any xs[k] wr)
      have ho := Lib.hid (fun (h : Ut.whole xs[k] = true) => one_any xs[k] h wr)
      have hrl := Ut.rune_length xs[k]
      clear hcu
      generalize xs[k] = c at *
      have HBE := Lib.hid hbel
      clear hbel
      cases hwc : Ut.whole c
      · rw [hwc] at hw
        have hno := Lib.hid (hs3 hwc)
        clear hs1 hs2 hs3 ho hA hS hrl
        go_wp2_with fail
        refine hw.out.mono ?_
        rintro e w2 ⟨rfl, rfl⟩
        go_wp2_with fail
        go_ret2
        exact ⟨ret_si (by rw [Ut.encS_no hno.out]) (by rw [Ut.encE_no hno.out]), HBE.out⟩
      · rw [hwc] at hw hs1
        have hA2 : Hid (Ut.allW (xs.take (k + 1)) = true) := by show _ = _; rw [hs1, hA.out]; rfl
        have ho2 := Lib.hid (ho.out hwc)
        obtain ⟨T, hT⟩ : ∃ T : ByteArray, T = ⟨(Lib.encodeRune c).toArray⟩ := ⟨_, rfl⟩
        have hTs : T.size ≤ 4 := by rw [hT, mk_size]; exact hrl.2
        have hS2 : Hid (S ++ T = ⟨(Ut.enc (xs.take (k + 1))).toArray⟩) := by show _ = _; rw [hS.out, hT, mk_append, hs2]
        rw [← hT] at ho2
        have hz : ¬ 9223372036854775807 < S.size + T.size := by omega
        have hz2 : Hid ((S ++ T).size ≤ 4 * (k + 1)) := by show _ ≤ _; rw [ByteArray.size_append]; omega
        clear hs1 hs2 hs3 ho hA hS hT hrl
        go_wp2_with fail
        refine hw.out.mono ?_
        rintro e w2 ⟨rfl, rfl⟩
        go_wp2_with fail
        refine ho2.out.mono ?_
        rintro e w2 ⟨rfl, hb2⟩
        have HB2 : Hid (Below w.heap.size w w2) := HBE.out.trans (hb2.mono HBE.out.size)
        clear hb2
        go_wp2_with fail
        go_roundg (n - (k + 1))
        case rel => exact ⟨k + 1, S ++ T, by omega, rfl, by go_num, rfl, hz2.out, hA2, hS2, HB2.out⟩
        case measure => omega
    · obtain rfl : k = n := by omega
      have hfull : xs.take k = xs := List.take_of_length_le (by rw [← HN.out]; exact Nat.le_refl _)
      rw [hfull] at hA hS
      have HBE := Lib.hid hbel
      clear hbel hfull
      go_wp2_with fail
      go_ret2
      exact ⟨ret_si (by rw [hS.out, Ut.encS_yes hA.out]) (by rw [Ut.encE_yes hA.out]), HBE.out⟩

namespace Ut
/-- What is told so far, with the bytes that are left. -/
def told (X : Int) (l : List UInt8) : Int := l.foldl (fun c b => 64 * c + (b.toNat : Int) - 128) X
def leads (n : Nat) : Int := if n = 2 then 192 else if n = 3 then 224 else if n = 4 then 240 else 0
theorem guess_told (l : List UInt8) (h0 : 0 < l.length) (h4 : l.length ≤ 4) : guess l = told ((l.head?.getD 0).toNat - leads l.length) (l.drop 1) := by
  match l, h0, h4 with
  | [a], _, _ => simp [guess, told, leads]
  | [a, b], _, _ => simp [guess, told, leads]
  | [a, b, c], _, _ => simp [guess, told, leads]
  | [a, b, c, d], _, _ => simp [guess, told, leads]
  | _ :: _ :: _ :: _ :: _ :: _, _, h => simp at h
end Ut

end Go.Proofs.Ytmpjhbbcfnffhaa
