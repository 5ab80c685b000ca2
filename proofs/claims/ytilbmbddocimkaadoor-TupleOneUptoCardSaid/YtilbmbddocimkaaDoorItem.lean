/-
  The bytes of items, one behind the other.
-/
import Derived.Test.YtilbmbddocimkaaDoorRowW
import Derived.Test.YtilbmbddocimkaaDoorInv
namespace Go.Proofs.YtilbmbddocimkaaDoor
open Go.RowKit Od Rw Iv

/-- The bytes of an item. -/
def itB (kd n : Int) (s : ByteArray) : List UInt8 := if kd % 3 = 0 then Pl.numB n else if kd % 3 = 1 then textB s.data.toList else blockB s.data.toList
/-- The bytes of the first k items. -/
def wrB (K N : List Int) (S : List ByteArray) : Nat → List UInt8
  | 0 => []
  | k + 1 => wrB K N S k ++ itB (K.getD k 0) (N.getD k 0) (S.getD k ByteArray.empty)

/-- What is known of items that came in. -/
def InItems (w : World) (a : Option Addr) (n : Nat) (K N : List Int) (S : List ByteArray) : Prop :=
  0 < n → ∃ b off, a = some ⟨b, off, none⟩ ∧ b < w.heap.size ∧
    ∀ k, k < n → w.cell? ⟨b, off + k * 3, none⟩ = some (.int .u8 (K.getD k 0)) ∧ w.cell? ⟨b, off + k * 3 + 1, none⟩ = some (.int .i64 (N.getD k 0)) ∧ w.cell? ⟨b, off + k * 3 + 2, none⟩ = some (.string (S.getD k ByteArray.empty)) ∧
      (0 ≤ K.getD k 0 ∧ K.getD k 0 ≤ 255) ∧ (-9223372036854775808 ≤ N.getD k 0 ∧ N.getD k 0 ≤ 9223372036854775807) ∧ (S.getD k ByteArray.empty).size ≤ 1048576

theorem itB_size (kd n : Int) (s : ByteArray) (h : s.size ≤ 1048576) : (itB kd n s).length ≤ 2097163 := by
  unfold itB blockB textB
  have h1 := numB_length n
  have h2 := numB_length (s.data.toList.length : Int)
  have h3 := esc_length s.data.toList
  have e : s.data.toList.length = s.size := by simp
  split
  · omega
  · split
    · rw [List.length_append]; simp only [List.length_cons, List.length_nil]; omega
    · rw [List.length_append]; omega

set_option maxRecDepth 100000 in
set_option maxHeartbeats 4000000 in
theorem written_any (a : Option Addr) (len cap : Nat) (K N : List Int) (S : List ByteArray) (w : World) (hm : Hid (MaxI w)) (hl : len ≤ 300) (hI : Hid (InItems w a len K N S)) :
    Calls Tryd.prog 16 #[.slice a len cap] w (StrPost w.heap.size w (wrB K N S len)) := by
  go_enter Tryd.func16, Tryd.ntmps16
  go_wp2_with fail
  go_loopw [3, 4] (fun o i wr => ∃ (k : Nat) (u : ByteArray), k ≤ len ∧ i = .int .i64 k ∧ o = .string u ∧ Hid (u.data.toList = wrB K N S k) ∧ u.size ≤ 2097163 * k ∧ Below w.heap.size w wr) (fun _ i _ => len - (intOf i).toNat)
  case atStart => exact ⟨0, ⟨#[]⟩, Nat.zero_le _, rfl, rfl, rfl, Nat.le_refl _, Below.refl _ _⟩
  case round =>
    obtain ⟨k, u, hk, rfl, rfl, hu, hus, hbel⟩ := hrel
    have HBE := Lib.hid hbel
    clear hbel
    by_cases hlt : k < len
    · obtain ⟨b, off, h1, hb, hc⟩ := hI.out (by omega)
      subst h1
      obtain ⟨c1, c2, c3, ⟨k0, k1⟩, ⟨n0, n1⟩, s0⟩ := hc k hlt
      have d1 : wr.cell? ⟨b, off + k * 3, none⟩ = some (.int .u8 (K.getD k 0)) := (HBE.out.cell (p := ⟨b, off + k * 3, none⟩) hb).trans c1
      have d2 : wr.cell? ⟨b, off + k * 3 + 1, none⟩ = some (.int .i64 (N.getD k 0)) := (HBE.out.cell (p := ⟨b, off + k * 3 + 1, none⟩) hb).trans c2
      have d3 : wr.cell? ⟨b, off + k * 3 + 2, none⟩ = some (.string (S.getD k ByteArray.empty)) := (HBE.out.cell (p := ⟨b, off + k * 3 + 2, none⟩) hb).trans c3
      clear hc c1 c2 c3
      have hst : Hid (wrB K N S (k + 1) = wrB K N S k ++ itB (K.getD k 0) (N.getD k 0) (S.getD k ByteArray.empty)) := rfl
      generalize K.getD k 0 = kd at *
      generalize N.getD k 0 = nn at *
      generalize S.getD k ByteArray.empty = sk at *
      have hsz := itB_size kd nn sk s0
      have i0 : (0 : Int) ≤ (k : Int) := by omega
      have i1 : (k : Int) < (len : Int) := by omega
      have hz : (⟨(itB kd nn sk).toArray⟩ : ByteArray).size ≤ 2097163 := by simpa [ByteArray.size] using hsz
      have hu2 : Hid ((u ++ ⟨(itB kd nn sk).toArray⟩).data.toList = wrB K N S (k + 1)) := by
        show _ = _
        rw [ByteArray.data_append, Array.toList_append, hu.out, hst.out]
      clear hst hsz hu
      have hq3 : kd % 3 = 0 ∨ kd % 3 = 1 ∨ kd % 3 = 2 := by omega
      rcases hq3 with hq | hq | hq
      · have hC : Hid (∀ W, Calls Tryd.prog 9 #[.slice (some ⟨W.heap.size, 0, none⟩) 1 1] (W.alloc (.cells #[.int .i64 nn] 3)) (fun e w' => e = .returned (.string ⟨(itB kd nn sk).toArray⟩) ∧ Below W.heap.size W w')) := by
          intro W
          have e : itB kd nn sk = Pl.numB nn := by unfold itB; rw [if_pos hq]
          rw [e]
          exact nums_one nn W ⟨n0, n1⟩
        generalize (⟨(itB kd nn sk).toArray⟩ : ByteArray) = x at *
        go_wp2_with (go_at_call 9; refine (hC.out _).mono ?_; rintro e w' ⟨rfl, hb1⟩; have HB1 : Hid (Below w.heap.size w w') := HBE.out.trans (hb1.mono HBE.out.size); clear hb1)
        go_roundw
        case rel => exact ⟨k + 1, _, by omega, by go_num, rfl, hu2, by rw [ByteArray.size_append]; omega, HB1.out⟩
        case measure => simp [intOf]; omega
      · have hC : Hid (∀ W, MaxI W → Calls Tryd.prog 11 #[.string sk] W (fun e w' => e = .returned (.string ⟨(itB kd nn sk).toArray⟩) ∧ Below W.heap.size W w')) := by
          intro W hW
          have e : itB kd nn sk = textB sk.data.toList := by unfold itB; rw [if_neg (by omega), if_pos hq]
          rw [e]
          exact text_w sk W hW (by omega)
        generalize (⟨(itB kd nn sk).toArray⟩ : ByteArray) = x at *
        go_wp2_with (go_at_call 11; refine (hC.out _ (hm.out.grow HBE.out)).mono ?_; rintro e w' ⟨rfl, hb1⟩; have HB1 : Hid (Below w.heap.size w w') := HBE.out.trans (hb1.mono HBE.out.size); clear hb1)
        go_roundw
        case rel => exact ⟨k + 1, _, by omega, by go_num, rfl, hu2, by rw [ByteArray.size_append]; omega, HB1.out⟩
        case measure => simp [intOf]; omega
      · have hC : Hid (∀ W, Calls Tryd.prog 13 #[.string sk] W (fun e w' => e = .returned (.string ⟨(itB kd nn sk).toArray⟩) ∧ Below W.heap.size W w')) := by
          intro W
          have e : itB kd nn sk = blockB sk.data.toList := by unfold itB; rw [if_neg (by omega), if_neg (by omega)]
          rw [e]
          exact block_w sk W (by omega)
        generalize (⟨(itB kd nn sk).toArray⟩ : ByteArray) = x at *
        go_wp2_with (go_at_call 13; refine (hC.out _).mono ?_; rintro e w' ⟨rfl, hb1⟩; have HB1 : Hid (Below w.heap.size w w') := HBE.out.trans (hb1.mono HBE.out.size); clear hb1)
        go_roundw
        case rel => exact ⟨k + 1, _, by omega, by go_num, rfl, hu2, by rw [ByteArray.size_append]; omega, HB1.out⟩
        case measure => simp [intOf]; omega
    · obtain rfl : k = len := by omega
      go_wp2_with fail
      go_ret
      exact ⟨ret_str (mk_of hu.out), HBE.out⟩
end Go.Proofs.YtilbmbddocimkaaDoor
