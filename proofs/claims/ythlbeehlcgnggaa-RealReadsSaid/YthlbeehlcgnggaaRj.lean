/-
  The digits of a number as the statement makes them.
-/
import Derived.Test.YthlbeehlcgnggaaRi
import Derived.Test.YthlbeehlcgnggaaRv
namespace Go.Proofs.Ythlbeehlcgnggaa
open Go.RowKit

/-- A text of one digit. -/
theorem digit_text (r : Nat) (hr : r < 10) : ∃ u : ByteArray, u.data.toList = [UInt8.ofNat (48 + r)] ∧ u.size = 1 ∧ ∀ W : World, (convert 54 9 (.slice (some ⟨W.heap.size, 0, none⟩) 1 1)).run Try.prog (W.alloc (.cells #[.int .u8 (48 + (r : Int))] 5)) = .ok (.string u) (W.alloc (.cells #[.int .u8 (48 + (r : Int))] 5)) := by
  refine ⟨⟨#[UInt8.ofNat (48 + r)]⟩, rfl, rfl, fun W => ?_⟩
  have h : (UInt8.ofNat (48 + r)).toNat = 48 + r := by
    rw [UInt8.toNat_ofNat']
    omega
  have hcells : ∀ j (hj : j < [UInt8.ofNat (48 + r)].length), (W.alloc (.cells #[.int .u8 (48 + (r : Int))] 5)).cell? ((⟨W.heap.size, 0, none⟩ : Addr).add j) = some (.int .u8 ([UInt8.ofNat (48 + r)][j].toNat : Int)) := by
    intro j hj
    simp only [List.length_cons, List.length_nil] at hj
    obtain rfl : j = 0 := by omega
    rw [Addr.add_lit, Nat.zero_add, World.cell?_alloc_at _ _ _ _ rfl]
    simp only [List.getElem_cons_zero]
    rw [h]
    simp
  exact run_convert_bytes_back (P := Try.prog) (W.alloc (.cells #[.int .u8 (48 + (r : Int))] 5)) 54 9 5 ⟨W.heap.size, 0, none⟩ 1 [UInt8.ofNat (48 + r)] Try.underlying54 Try.underlying5 Try.underlying9 hcells

/-- What is still to come ahead. -/
def Rf.pre (n : Nat) : List UInt8 := if 10 ≤ n then Rf.dgs (n / 10) else []

set_option maxRecDepth 100000 in
set_option maxHeartbeats 2000000 in
theorem decimal_any (N : Nat) (hN : N < 1000000000000) (w : World) :
    Calls Try.prog 19 #[.int .i64 N] w fun e w' => e = .returned (.string ⟨(Rf.dgs N).toArray⟩) ∧ Below w.heap.size w w' := by
  obtain ⟨u, hu1, hu2, hconv⟩ := digit_text (N % 10) (by omega)
  have m1 : (N : Int) % 10 = ((N % 10 : Nat) : Int) := by omega
  have m2 : ((N % 10 : Nat) : Int) < 10 := by omega
  have hst : Hid (Rf.dgs N = Rf.pre N ++ u.data.toList) := by
    show _ = _
    rw [Rf.dgs_eq, hu1]
    rfl
  generalize N % 10 = r at *
  have m3 : 0 ≤ (r : Int) := by omega
  clear hu1
  go_enter Try.func19, Try.ntmps19
  go_wp2_with fail
  go_loopg [0, 3] N (fun g vn vs wx => ∃ (n : Nat) (s : ByteArray), n = g ∧ vn = .int .i64 n ∧ vs = .string s ∧ Hid (Rf.dgs N = Rf.pre n ++ s.data.toList) ∧ s.size + n ≤ N + 1 ∧ Below w.heap.size w wx)
  case atStart => exact ⟨N, u, rfl, rfl, rfl, hst, by omega, (Below.refl _ _).alloc (Nat.le_refl _) _⟩
  case round =>
    obtain ⟨n, s, rfl, rfl, rfl, hS, hsz, hbel⟩ := hrel
    clear hst hconv m1 m2 m3 hu2
    by_cases hn : 9 < n
    · obtain ⟨u2, hu1, hu2, hconv⟩ := digit_text (n / 10 % 10) (by omega)
      have n1 : (9 : Int) < (n : Int) := by omega
      obtain ⟨m, hm⟩ : ∃ m, n / 10 = m := ⟨_, rfl⟩
      have n2 : (n : Int) / 10 = (m : Int) := by omega
      have hst : Hid (Rf.dgs N = Rf.pre m ++ (u2 ++ s).data.toList) := by
        show _ = _
        rw [hS.out, Rf.pre, if_pos (by omega), hm, Rf.dgs_eq, ByteArray.data_append, Array.toList_append, hu1, hm, ← List.append_assoc]
        rfl
      rw [hm] at hconv
      have m1 : (m : Int) % 10 = ((m % 10 : Nat) : Int) := by omega
      have m2 : ((m % 10 : Nat) : Int) < 10 := by omega
      have m4 : m + 1 ≤ n := by omega
      have m5 : m < 1000000000000 := by omega
      have hz : (u2 ++ s).size = 1 + s.size := by rw [ByteArray.size_append, hu2]
      have HZ := Lib.hid hz
      have hM := Lib.hid hm
      clear hu1 hS hz hm
      generalize m % 10 = r at *
      have m3 : 0 ≤ (r : Int) := by omega
      have q1 : ¬ 9223372036854775807 < u2.size + s.size := by omega
      have HB := Lib.hid hbel
      have HB2 : Hid (Below w.heap.size w (wr.alloc (.cells #[.int .u8 (48 + (r : Int))] 5))) := hbel.alloc hbel.size _
      clear hbel
      go_wp2_with fail
      go_roundg m
      case rel => exact ⟨m, u2 ++ s, rfl, by go_num, rfl, hst, by rw [HZ.out]; omega, HB2.out⟩
      case measure => omega
    · have n1 : ¬ (9 : Int) < (n : Int) := by omega
      have hfin : s = ⟨(Rf.dgs N).toArray⟩ := by
        have h := hS.out
        rw [Rf.pre, if_neg (by omega), List.nil_append] at h
        rw [h]
      have HF := Lib.hid hfin
      have HB := Lib.hid hbel
      clear hfin hS hbel
      go_wp2_with fail
      go_ret
      exact ⟨congrArg (fun x => Ending.returned (.string x)) HF.out, HB.out⟩

end Go.Proofs.Ythlbeehlcgnggaa
