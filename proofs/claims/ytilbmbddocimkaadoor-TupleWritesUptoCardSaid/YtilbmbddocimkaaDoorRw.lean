/-
  What the document's own writers of rows of numbers and of texts answer.
-/
import Derived.Test.YtilbmbddocimkaaDoorTw
namespace Go.Proofs.YtilbmbddocimkaaDoor
open Go.RowKit

set_option maxRecDepth 100000 in
set_option maxHeartbeats 1000000 in
theorem numsR_any (w : World) (xs : List Int) (len cap b off : Nat) (hl : len ≤ 4194304) (hlen : xs.length = len) (hb : b < w.heap.size)
    (hc : ∀ j (h : j < xs.length), w.cell? ⟨b, off + j, none⟩ = some (.int .i64 xs[j])) (hwf : ∀ n ∈ xs, -9223372036854775808 ≤ n ∧ n ≤ 9223372036854775807) :
    Calls Tryd.prog 10 #[.slice (some ⟨b, off, none⟩) len cap] w (StrPost w.heap.size w (Pl.numsB xs)) := by
  have hlen' : xs.length ≤ len ∧ len ≤ xs.length := by omega
  clear hlen
  have HW := Lib.hid hwf
  have HC := Lib.hid hc
  clear hwf hc
  go_enter Tryd.func10, Tryd.ntmps10
  go_wp2_with fail
  go_loopw [3, 4] (fun u i wr => ∃ (k : Nat) (acc : ByteArray), k ≤ len ∧ i = .int .i64 k ∧ u = .string acc ∧ Hid (acc.data.toList = Pl.numsB (xs.take k)) ∧ acc.size ≤ 9 * k ∧ Below w.heap.size w wr) (fun _ i _ => len - (intOf i).toNat)
  case atStart => exact ⟨0, ⟨#[]⟩, Nat.zero_le _, rfl, rfl, rfl, Nat.le_refl _, Below.refl _ _⟩
  case round =>
    obtain ⟨k, acc, hk, rfl, rfl, hacc, hsz, hbel⟩ := hrel
    have HB := Lib.hid hbel
    by_cases hlt : k < len
    · have hkx : k < xs.length := by omega
      have hcell : wr.cell? ⟨b, off + k, none⟩ = some (.int .i64 xs[k]) := (hbel.cell (p := ⟨b, off + k, none⟩) hb).trans (HC.out k hkx)
      have hst : Hid (Pl.numsB (xs.take (k + 1)) = Pl.numsB (xs.take k) ++ Pl.numB xs[k]) := numsB_snoc xs k hkx
      have hw := HW.out xs[k] (List.getElem_mem hkx)
      have hcall : Hid (Calls Tryd.prog 25 #[.int .i64 xs[k]] wr (StrPost wr.heap.size wr (Pl.numB xs[k]))) := numR_any _ wr hw.1 hw.2
      have hnl := numB_length xs[k]
      obtain ⟨hw1, hw2⟩ := hw
      have hls : (⟨(Pl.numB xs[k]).toArray⟩ : ByteArray).size ≤ 9 := by simpa [ByteArray.size] using hnl
      clear hbel
      generalize Pl.numB xs[k] = l at *
      go_wp2_with (refine hcall.out.mono ?_; rintro e w1 ⟨rfl, hb1⟩; have HB1 : Hid (Below w.heap.size w w1) := HB.out.trans (hb1.mono HB.out.size); clear hb1)
      go_roundw
      case rel => exact ⟨k + 1, _, by omega, by go_num, rfl, by show _ = _; rw [ByteArray.data_append, Array.toList_append, hacc.out, hst.out], by rw [ByteArray.size_append]; omega, HB1.out⟩
      case measure => simp [intOf]; omega
    · obtain rfl : k = len := by omega
      have hall : Hid (acc.data.toList = Pl.numsB xs) := by
        show _ = _
        rw [hacc.out, List.take_of_length_le hlen'.1]
      clear hbel hacc
      go_wp2_with fail
      go_ret
      exact ⟨ret_str (mk_of hall.out), HB.out⟩
set_option maxRecDepth 100000 in
set_option maxHeartbeats 1000000 in
theorem numsR_none (w : World) (a : Option Addr) (cap : Nat) :
    Calls Tryd.prog 10 #[.slice a 0 cap] w (StrPost w.heap.size w []) := by
  go_enter Tryd.func10, Tryd.ntmps10
  go_wp2_with fail
  refine wp_loop_rounds 1 ?_
  rw [rounds_succ]
  go_wp2
  go_ret
  exact ⟨rfl, Below.refl _ _⟩

theorem take_cons (s : ByteArray) (f k : Nat) (hf : f ≤ k) (hk : k < s.size) : (s.data.toList.drop f).take (k + 1 - f) = (s.data.toList.drop f).take (k - f) ++ [s[k]] := by
  have hl : k - f < (s.data.toList.drop f).length := by simp; omega
  rw [show k + 1 - f = k - f + 1 from by omega, List.take_succ_eq_append_getElem hl]
  congr 2
  rw [List.getElem_drop]
  simp only [Nat.add_sub_cancel' hf]
  rfl
theorem take_snoc (s : ByteArray) (k : Nat) (hk : k < s.size) : s.data.toList.take (k + 1) = s.data.toList.take k ++ [s[k]] := by
  have := take_cons s 0 k (Nat.zero_le _) hk
  simpa using this

theorem esc_size (s : ByteArray) (k : Nat) (out : ByteArray) (r : List UInt8) (h : out.data.toList ++ r = esc (s.data.toList.take k)) : out.size ≤ 2 * k := by
  have h1 := esc_length (s.data.toList.take k)
  have h2 : (s.data.toList.take k).length ≤ k := List.length_take_le _ _
  rw [← h, List.length_append] at h1
  have : out.data.toList.length = out.size := by simp
  omega

set_option maxRecDepth 100000 in
set_option maxHeartbeats 1000000 in
theorem textR_w (s : ByteArray) (w : World) (hs : s.size ≤ 4194304) :
    Calls Tryd.prog 12 #[.string s] w fun e' w' => e' = .returned (.string ⟨(textB s.data.toList).toArray⟩) ∧ w = w' := by
  go_enter Tryd.func12, Tryd.ntmps12
  go_wp2_with fail
  go_loop [3, 4, 5] (fun u f i => ∃ (k fr : Nat) (out : ByteArray), k ≤ s.size ∧ fr ≤ k ∧ i = .int .i64 k ∧ f = .int .i64 fr ∧ u = .string out ∧ Hid (out.data.toList ++ (s.data.toList.drop fr).take (k - fr) = esc (s.data.toList.take k))) (fun _ _ i => s.size - (intOf i).toNat)
  case atStart => exact ⟨0, 0, ⟨#[]⟩, Nat.zero_le _, Nat.le_refl _, rfl, rfl, rfl, by show _ = _; simp [esc]⟩
  case round =>
    obtain ⟨k, fr, out, hk, hf, rfl, rfl, rfl, hre⟩ := hrel
    have ho := esc_size s k out _ hre.out
    by_cases hlt : k < s.size
    · have hst : Hid (esc (s.data.toList.take (k + 1)) = esc (s.data.toList.take k) ++ (if s[k] = 0 then [0, 255] else [s[k]])) := by
        show _ = _
        rw [take_snoc s k hlt, esc_append]
        rw [esc_cons]
        simp [esc]
      have htc := Lib.hid (take_cons s fr k hf hlt)
      by_cases hz : s[k] = 0
      · have hb : ((s[k].toNat : Int) == 0) = true := by rw [hz]; rfl
        have hst2 : Hid ((out ++ s.extract fr (k + 1) ++ ⟨#[255]⟩).data.toList ++ (s.data.toList.drop (k + 1)).take (k + 1 - (k + 1)) = esc (s.data.toList.take (k + 1))) := by
          show _ = _
          rw [hst.out, if_pos hz, ← hre.out, ByteArray.data_append, ByteArray.data_append, Array.toList_append, Array.toList_append, Lib.extract_data, htc.out, hz]
          simp
        have hes : (s.extract fr (k + 1)).size ≤ k + 1 := by rw [ByteArray.size_extract]; omega
        have hes2 : (out ++ s.extract fr (k + 1)).size ≤ 3 * k + 1 := by rw [ByteArray.size_append]; omega
        clear hz hst htc hre
        go_wp2_with fail
        go_round
        case rel => exact ⟨k + 1, k + 1, _, by omega, Nat.le_refl _, by go_num, by go_num, rfl, hst2⟩
        case measure => simp [intOf]; omega
      · have hb : ((s[k].toNat : Int) == 0) = false := by
          rw [beq_eq_false_iff_ne]
          intro h
          exact hz (UInt8.toNat_inj.1 (by simp; omega))
        have hst2 : Hid (out.data.toList ++ (s.data.toList.drop fr).take (k + 1 - fr) = esc (s.data.toList.take (k + 1))) := by
          show _ = _
          rw [hst.out, if_neg hz, ← hre.out, htc.out]
          simp
        clear hz hst htc hre
        go_wp2_with fail
        go_round
        case rel => exact ⟨k + 1, fr, _, by omega, by omega, by go_num, rfl, rfl, hst2⟩
        case measure => simp [intOf]; omega
    · have hes : (s.extract fr s.size).size ≤ s.size := by rw [ByteArray.size_extract]; omega
      have hes2 : (out ++ s.extract fr s.size).size ≤ 3 * s.size := by rw [ByteArray.size_append]; omega
      have hfin : Hid ((out ++ s.extract fr s.size ++ ⟨#[0, 1]⟩).data.toList = textB s.data.toList) := by
        show _ = _
        have h1 := hre.out
        have hsz : s.data.toList.length = s.size := by simp
        rw [List.take_of_length_le (l := s.data.toList) (by omega)] at h1
        unfold textB
        rw [← h1, ByteArray.data_append, ByteArray.data_append, Array.toList_append, Array.toList_append, Lib.extract_data, List.take_of_length_le (by simp), List.take_of_length_le (by simp; omega)]
      clear hre
      go_wp2_with fail
      go_ret
      exact ⟨ret_str (mk_of hfin.out), rfl⟩
end Go.Proofs.YtilbmbddocimkaaDoor
