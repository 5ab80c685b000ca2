/-
  What the document's own checksum answers: what is left of a row of bits is what the bytes make one by one.
-/
import Derived.Test.YtmflmckmamckfaaHead
import Derived.Deep.OwnRows
import Derived.BigRegion
namespace Go.Proofs.Ytmflmckmamckfaa
open Go.RowKit

theorem Try.infoBool : (Try.prog.info? 4).map (fun i => (i.zero, i.size, i.bytes)) = some (some (.bool false), 1, 1) := by kernel_rfl

/-- The places behind a bit that are turned with it. -/
def onesL : List Nat := [6, 9, 10, 16, 20, 21, 22, 24, 25, 27, 28, 30, 31, 32]
def onesN (k : Nat) : Nat := onesL.getD k 0
theorem onesN_bd (k : Nat) (h : k < 14) : 6 ≤ onesN k ∧ onesN k ≤ 32 := by
  have : ∀ k : Fin 14, 6 ≤ onesN k.val ∧ onesN k.val ≤ 32 := by decide +kernel
  exact this ⟨k, h⟩
/-- So many of them, as a number's bits. -/
def msk : Nat → Nat
  | 0 => 0
  | k + 1 => msk k ^^^ 2 ^ onesN k
theorem msk_all : msk 14 = 2 * 3988292384 := by decide +kernel
theorem msk_even (k : Nat) (h : k ≤ 14) : (msk k).testBit 0 = false := by
  have : ∀ k : Fin 15, (msk k.val).testBit 0 = false := by decide +kernel
  exact this ⟨k, by omega⟩

/-- The row and the places, as they lie. -/
structure St (w wx : World) (N : Nat) (f : Nat → Bool) : Prop where
  since : Below w.heap.size w wx
  ones : wx.rowIs w.heap.size 39 14 (fun j => .int .i64 (onesN j : Int))
  row : wx.rowIs (w.heap.size + 1) 4 N (fun j => .bool (f j))
theorem St.congr {w wx : World} {N : Nat} {f g : Nat → Bool} (h : St w wx N f) (e : ∀ j, j < N → f j = g j) : St w wx N g :=
  ⟨h.since, h.ones, h.row.congr fun j hj => by rw [e j hj]⟩
theorem St.drew {w wx : World} {N : Nat} {f : Nat → Bool} (h : St w wx N f) : St w wx.drew N f := ⟨h.since.drew, h.ones.drew, h.row.drew⟩
theorem St.set {w wx : World} {N : Nat} {f : Nat → Bool} (h : St w wx N f) (p : Nat) (v : Bool) :
    St w (wx.setCell ⟨w.heap.size + 1, p, none⟩ (.bool v)) N (fun j => if j = p then v else f j) :=
  ⟨h.since.setCell (by show w.heap.size ≤ w.heap.size + 1; omega) _, h.ones.setOther (by show w.heap.size ≠ w.heap.size + 1; omega) _, (h.row.set p _).congr fun j _ => by by_cases e : j = p <;> simp [e]⟩
theorem St.start (w : World) (N : Nat) :
    St w ((w.alloc (.cells #[.int .i64 6, .int .i64 9, .int .i64 10, .int .i64 16, .int .i64 20, .int .i64 21, .int .i64 22, .int .i64 24, .int .i64 25, .int .i64 27, .int .i64 28, .int .i64 30, .int .i64 31, .int .i64 32] 39)).alloc (.cells (madeCells #[.bool false] N) 4)) N (fun _ => false) := by
  refine ⟨((Below.refl _ _).alloc (Nat.le_refl _) _).alloc (by simp) _, ?_, ?_⟩
  · refine World.rowIs.alloc ?_ _
    refine World.rowIs_alloc w #[.int .i64 6, .int .i64 9, .int .i64 10, .int .i64 16, .int .i64 20, .int .i64 21, .int .i64 22, .int .i64 24, .int .i64 25, .int .i64 27, .int .i64 28, .int .i64 30, .int .i64 31, .int .i64 32] 39 _ ?_
    intro i hi
    have hi : i < 14 := hi
    match i, hi with
    | 0, _ => rfl
    | 1, _ => rfl
    | 2, _ => rfl
    | 3, _ => rfl
    | 4, _ => rfl
    | 5, _ => rfl
    | 6, _ => rfl
    | 7, _ => rfl
    | 8, _ => rfl
    | 9, _ => rfl
    | 10, _ => rfl
    | 11, _ => rfl
    | 12, _ => rfl
    | 13, _ => rfl
  · have h := World.rowIs_made (w.alloc (.cells #[.int .i64 6, .int .i64 9, .int .i64 10, .int .i64 16, .int .i64 20, .int .i64 21, .int .i64 22, .int .i64 24, .int .i64 25, .int .i64 27, .int .i64 28, .int .i64 30, .int .i64 31, .int .i64 32] 39)) (.bool false) N 4
    rw [show (w.alloc (.cells #[.int .i64 6, .int .i64 9, .int .i64 10, .int .i64 16, .int .i64 20, .int .i64 21, .int .i64 22, .int .i64 24, .int .i64 25, .int .i64 27, .int .i64 28, .int .i64 30, .int .i64 31, .int .i64 32] 39)).heap.size = w.heap.size + 1 from by simp] at h
    exact h

/-- The row's first bits are laid. -/
def fLaid (D m : Nat) : Nat → Bool := fun j => decide (j < m) && D.testBit j
theorem fLaid_step (D m j : Nat) : (if j = m then D.testBit m else fLaid D m j) = fLaid D (m + 1) j := by
  unfold fLaid
  by_cases e : j = m
  · subst e
    simp
  · rw [if_neg e]
    by_cases h : j < m
    · simp [h, show j < m + 1 from by omega]
    · simp [h, show ¬ j < m + 1 from by omega]
/-- The row's first bits are turned. -/
def fTurn (D m : Nat) : Nat → Bool := fun j => D.testBit j ^^ decide (j < m)
theorem fTurn_step (D m j : Nat) : (if j = m then !fTurn D m m else fTurn D m j) = fTurn D (m + 1) j := by
  unfold fTurn
  by_cases e : j = m
  · subst e
    simp
  · rw [if_neg e]
    by_cases h : j < m
    · simp [h, show j < m + 1 from by omega]
    · simp [h, show ¬ j < m + 1 from by omega]
theorem fTurn_all (D j : Nat) : fTurn D 32 j = (D ^^^ 4294967295).testBit j := by
  have h2 := Nat.testBit_two_pow_sub_one 32 j
  simp only [Nat.reducePow, Nat.reduceSub] at h2
  unfold fTurn
  rw [Nat.testBit_xor, h2]
theorem flip_step (V k i j p : Nat) (f : Nat → Bool) (hf : ∀ j, f (i + j) = (V ^^^ msk k).testBit j) (hp : p = onesN k) :
    (if i + j = i + p then !f (i + p) else f (i + j)) = (V ^^^ msk (k + 1)).testBit j := by
  rw [msk, ← Nat.xor_assoc, Nat.testBit_xor (x := V ^^^ msk k), ← hp]
  by_cases e : j = p
  · rw [if_pos (by omega), e, hf, Nat.testBit_two_pow_self]
    simp
  · rw [if_neg (by omega), hf, Nat.testBit_two_pow_of_ne (fun h => e h.symm)]
    simp
theorem flip_done (V i : Nat) (f : Nat → Bool) (hV : V.testBit 0 = true) (hf : ∀ j, f (i + j) = (V ^^^ msk 14).testBit j) : ∀ j, f (i + 1 + j) = (Pl.stp V).testBit j := by
  intro j
  have h1 : V % 2 = 1 := by rw [Nat.testBit_zero] at hV; simpa using hV
  rw [show i + 1 + j = i + (j + 1) from by omega, hf, msk_all, Pl.stp, if_pos h1]
  rw [← Nat.testBit_div_two, Nat.xor_div_two]
theorem flip_none (V i : Nat) (f : Nat → Bool) (hV : V.testBit 0 = false) (hf : ∀ j, f (i + j) = V.testBit j) : ∀ j, f (i + 1 + j) = (Pl.stp V).testBit j := by
  intro j
  have h1 : ¬ V % 2 = 1 := by rw [Nat.testBit_zero] at hV; simpa using hV
  rw [show i + 1 + j = i + (j + 1) from by omega, hf, Pl.stp, if_neg h1, Nat.testBit_div_two]
theorem high_step (C d : Nat) : C / 2 ^ d = 2 * (C / 2 ^ (d + 1)) + (if C.testBit d then 1 else 0) := by
  rw [Nat.pow_succ, ← Nat.div_div_eq_div_mul, Nat.testBit_eq_decide_div_mod_eq]
  by_cases h : C / 2 ^ d % 2 = 1
  · simp only [h, decide_true, if_true]; omega
  · simp only [h, decide_false, Bool.false_eq_true, if_false]; omega
theorem comp_bit (V d : Nat) (hV : V < 4294967296) (hd : d < 32) : (4294967295 - V).testBit d = !V.testBit d := by
  have h1 := Nat.testBit_two_pow_sub_succ (n := 32) (x := V) hV d
  simp only [Nat.reducePow] at h1
  rw [show 4294967295 - V = 4294967296 - (V + 1) from by omega, h1]
  simp [hd]
theorem u32_div (C d : Nat) (hC : C < 4294967296) : C / 2 ^ d < 4294967296 := Nat.lt_of_le_of_lt (Nat.div_le_self _ _) hC

set_option maxRecDepth 100000 in
set_option maxHeartbeats 4000000 in
theorem refSum_any (s : ByteArray) (hs : s.size ≤ 1099511627776) (w : World) :
    Calls Try.prog 11 #[.string s] w fun e' w' => e' = .returned (.int .u32 (Pl.crc s.data.toList)) ∧ Below w.heap.size w w' := by
  have hmk := run_make_row' (P := Try.prog) 40 4 (.bool false) 1 Try.underlying40 Try.infoBool rfl .i64 .i64 (8 * s.size + 32) (by omega) (by omega)
  rw [show ((8 * s.size + 32 : Nat) : Int) = 8 * (s.size : Int) + 32 from by omega] at hmk
  obtain ⟨D, hD⟩ : ∃ D, D = Pl.num s.data.toList := ⟨_, rfl⟩
  have HD := Lib.hid hD
  clear hD
  have hst := Lib.hid (St.start w (8 * s.size + 32))
  go_enter Try.func11, Try.ntmps11
  go_wp2_with fail
  generalize (w.alloc (.cells #[.int .i64 6, .int .i64 9, .int .i64 10, .int .i64 16, .int .i64 20, .int .i64 21, .int .i64 22, .int .i64 24, .int .i64 25, .int .i64 27, .int .i64 28, .int .i64 30, .int .i64 31, .int .i64 32] 39)).alloc (.cells (madeCells #[.bool false] (8 * s.size + 32)) 4) = w0 at *
  clear hmk
  -- the bits are laid
  go_loopg [6] s.size (fun g i wx => ∃ k : Nat, k ≤ s.size ∧ g = s.size - k ∧ i = .int .i64 k ∧ St w wx (8 * s.size + 32) (fLaid D (8 * k)))
  case atStart => exact ⟨0, Nat.zero_le _, rfl, rfl, hst.out.congr fun j _ => by simp [fLaid]⟩
  case round =>
    clear hst
    obtain ⟨i, hi, rfl, rfl, hS⟩ := hrel
    have HS := Lib.hid hS
    clear hS
    by_cases hlt : i < s.size
    · have i1 : (i : Int) < (s.size : Int) := by omega
      have hbyte : s[i].toNat < 256 := s[i].toNat_lt
      go_wp2_with fail
      go_loopg [7, 8] 8 (fun g x k wx => ∃ m X : Nat, m ≤ 8 ∧ g = 8 - m ∧ k = .int .i64 m ∧ x = .int .i64 X ∧ X < 256 ∧ Hid (X = s[i].toNat / 2 ^ m) ∧ St w wx (8 * s.size + 32) (fLaid D (8 * i + m)))
      case atStart => exact ⟨0, s[i].toNat, by omega, rfl, rfl, rfl, hbyte, by show _ = _; simp, HS.out⟩
      case round =>
        clear HS
        obtain ⟨m, X, hm, rfl, rfl, rfl, hX, hXe, hS⟩ := hrel
        by_cases hm8 : m < 8
        · have j1 : (m : Int) < 8 := by omega
          have j2 : 8 * (i : Int) + (m : Int) < 8 * (s.size : Int) + 32 := by omega
          have j3 : (0 : Int) ≤ 8 * (i : Int) + (m : Int) := by omega
          have hc := hS.row.cell (i := 8 * i + m) (by omega)
          have hf := hS.row.frozen (8 * i + m)
          have hl : i < s.data.toList.length := by simpa using hlt
          have hbit : Hid (D.testBit (8 * i + m) = decide (X % 2 = 1)) := by
            show _ = _
            rw [HD.out, Pl.num_bit s.data.toList i m hl hm8, hXe.out]
            rfl
          have hX2 : Hid (X / 2 = s[i].toNat / 2 ^ (m + 1)) := by
            show _ = _
            rw [hXe.out, Nat.pow_succ, Nat.div_div_eq_div_mul]
          have hx0 : X / 2 < 256 := by omega
          have d1 : (X : Int).tdiv 2 = ((X / 2 : Nat) : Int) := by rw [Int.tdiv_eq_ediv_of_nonneg (by omega)]; omega
          have d2 : (X : Int) / 2 = ((X / 2 : Nat) : Int) := by omega
          have hN := Lib.hid (hS.set (8 * i + m) (D.testBit (8 * i + m)))
          clear hXe hS
          generalize X / 2 = X2 at *
          by_cases hodd : X % 2 = 1
          · have d3 : (X : Int).tmod 2 = 1 := by rw [Int.tmod_eq_emod_of_nonneg (by omega)]; omega
            have d4 : (X : Int) % 2 = 1 := by omega
            have hb : Hid (D.testBit (8 * i + m) = true) := by show _ = _; rw [hbit.out]; simp [hodd]
            clear hbit hodd
            go_wp2_with fail
            go_roundg (8 - (m + 1))
            case rel => exact ⟨m + 1, _, by omega, rfl, by go_num, rfl, hx0, hX2, by have h := hN.out.congr (fun j _ => fLaid_step D (8 * i + m) j); rw [hb.out] at h; exact h⟩
            case measure => omega
          · have d3 : (X : Int).tmod 2 = 0 := by rw [Int.tmod_eq_emod_of_nonneg (by omega)]; omega
            have d4 : (X : Int) % 2 = 0 := by omega
            have hb : Hid (D.testBit (8 * i + m) = false) := by show _ = _; rw [hbit.out]; simp [hodd]
            clear hbit hodd
            go_wp2_with fail
            go_roundg (8 - (m + 1))
            case rel => exact ⟨m + 1, _, by omega, rfl, by go_num, rfl, hx0, hX2, by have h := hN.out.congr (fun j _ => fLaid_step D (8 * i + m) j); rw [hb.out] at h; exact h⟩
            case measure => omega
        · obtain rfl : m = 8 := by omega
          go_wp2_with fail
          go_roundg (s.size - (i + 1))
          case rel => exact ⟨i + 1, by omega, rfl, by go_num, hS⟩
          case measure => omega
    · obtain rfl : i = s.size := by omega
      clear hlt hi
      have HS2 : Hid (St w wr (8 * s.size + 32) (fTurn D 0)) := HS.out.congr fun j _ => by
        unfold fLaid fTurn
        by_cases h : j < 8 * s.size
        · simp [h]
        · have : D.testBit j = false := by
            rw [HD.out]
            have h1 := Pl.num_lt s.data.toList
            rw [show s.data.toList.length = s.size from by simp] at h1
            exact Nat.testBit_lt_two_pow (Nat.lt_of_lt_of_le h1 (Nat.pow_le_pow_right (by omega) (by omega)))
          simp [h, this]
      clear HS
      go_wp2_with fail
      -- the first 32 are turned
      go_loopg [9] 32 (fun g i wx => ∃ m : Nat, m ≤ 32 ∧ g = 32 - m ∧ i = .int .i64 m ∧ St w wx (8 * s.size + 32) (fTurn D m))
      case atStart => exact ⟨0, by omega, rfl, rfl, HS2.out⟩
      case round =>
        clear HS2
        obtain ⟨m, hm, rfl, rfl, hS⟩ := hrel
        by_cases hm32 : m < 32
        · have j1 : (m : Int) < 32 := by omega
          have j2 : (m : Int) < 8 * (s.size : Int) + 32 := by omega
          have hc := hS.row.cell (i := m) (by omega)
          have hf := hS.row.frozen m
          have hN : Hid (St w _ (8 * s.size + 32) (fTurn D (m + 1))) := (hS.set m (!fTurn D m m)).congr (fun j _ => fTurn_step D m j)
          clear hS
          go_wp2_with fail
          go_roundg (32 - (m + 1))
          case rel => exact ⟨m + 1, by omega, rfl, by go_num, hN.out⟩
          case measure => omega
        · obtain rfl : m = 32 := by omega
          have HS3 : Hid (∀ j, fTurn D 32 (0 + j) = (Pl.stps 0 (D ^^^ 4294967295)).testBit j) := fun j => by rw [Nat.zero_add]; exact fTurn_all D j
          have HV0 : Hid (D ^^^ 4294967295 = Pl.num s.data.toList ^^^ 4294967295) := by show _ = _; rw [HD.out]
          have HS := Lib.hid hS
          clear hS HD hm32 hm
          generalize D ^^^ 4294967295 = V0 at *
          generalize fTurn D 32 = f0 at *
          go_wp2_with fail
          -- wherever a bit is 1 the polynomial is taken away
          go_loopg [10] (8 * s.size) (fun g i wx => ∃ (m : Nat) (f : Nat → Bool), m ≤ 8 * s.size ∧ g = 8 * s.size - m ∧ i = .int .i64 m ∧ St w wx (8 * s.size + 32) f ∧ Hid (∀ j, f (m + j) = (Pl.stps m V0).testBit j))
          case atStart => exact ⟨0, f0, by omega, rfl, rfl, HS.out, HS3⟩
          case round =>
            clear HS HS3
            obtain ⟨m, f, hm, rfl, rfl, hS, hf⟩ := hrel
            by_cases hmn : m < 8 * s.size
            · have j1 : (m : Int) < 8 * (s.size : Int) := by omega
              have j2 : (m : Int) < 8 * (s.size : Int) + 32 := by omega
              obtain ⟨V, hV⟩ : ∃ V, Pl.stps m V0 = V := ⟨_, rfl⟩
              have hV1 : Hid (Pl.stps (m + 1) V0 = Pl.stp V) := by show _ = _; rw [Pl.stps_snoc, hV]
              rw [hV] at hf
              clear hV
              by_cases hb : V.testBit 0 = true
              · have HS := Lib.hid hS
                clear hS
                go_wp2_with fail
                go_loopg [11] 14 (fun g k wx => ∃ (q : Nat) (f' : Nat → Bool), q ≤ 14 ∧ g = 14 - q ∧ k = .int .i64 q ∧ St w wx (8 * s.size + 32) f' ∧ Hid (∀ j, f' (m + j) = (V ^^^ msk q).testBit j))
                case atStart => exact ⟨0, f, by omega, rfl, rfl, HS.out, fun j => by rw [msk, Nat.xor_zero]; exact hf.out j⟩
                case round =>
                  clear HS hf
                  obtain ⟨q, f', hq, rfl, rfl, hS, hf'⟩ := hrel
                  by_cases hq14 : q < 14
                  · have hbd := onesN_bd q hq14
                    have hm0 : f' m = true := by
                      have h := hf'.out 0
                      rw [Nat.add_zero, Nat.testBit_xor, hb, msk_even q hq] at h
                      exact h
                    have hcm := hS.row.cell (i := m) (by omega)
                    rw [hm0] at hcm
                    have hco := hS.ones.cell (i := q) hq14
                    have hcp := hS.row.cell (i := m + onesN q) (by omega)
                    have hfp := hS.row.frozen (m + onesN q)
                    have hnx : Hid (∀ j, (fun j => if j = m + onesN q then !f' (m + onesN q) else f' j) (m + j) = (V ^^^ msk (q + 1)).testBit j) := fun j => flip_step V q m j _ f' hf'.out rfl
                    have hN := Lib.hid (hS.set (m + onesN q) (!f' (m + onesN q)))
                    have k1 : (q : Int) < 14 := by omega
                    clear hS hf' hm0
                    generalize onesN q = p at *
                    generalize f' (m + p) = bv at *
                    obtain ⟨p0, p1⟩ := hbd
                    have k2 : (m : Int) + (p : Int) < 8 * (s.size : Int) + 32 := by omega
                    have k3 : (0 : Int) ≤ (m : Int) + (p : Int) := by omega
                    go_wp2_with fail
                    go_region
                    go_wp2_with fail
                    go_roundg (14 - (q + 1))
                    case rel => exact ⟨q + 1, _, by omega, rfl, by go_num, by first | exact hN.out.drew | exact hN.out, hnx⟩
                    case measure => omega
                  · obtain rfl : q = 14 := by omega
                    have hnx : Hid (∀ j, f' (m + 1 + j) = (Pl.stps (m + 1) V0).testBit j) := fun j => by rw [hV1.out]; exact flip_done V m f' hb hf'.out j
                    clear hq14
                    go_wp2_with fail
                    go_roundg (8 * s.size - (m + 1))
                    case rel => exact ⟨m + 1, f', by omega, rfl, by go_num, hS, hnx⟩
                    case measure => omega
              · have hb : V.testBit 0 = false := by simpa using hb
                have hm0 : f m = false := by
                  have h := hf.out 0
                  rw [Nat.add_zero, hb] at h
                  exact h
                have hcm := hS.row.cell (i := m) (by omega)
                rw [hm0] at hcm
                have hnx : Hid (∀ j, f (m + 1 + j) = (Pl.stps (m + 1) V0).testBit j) := fun j => by rw [hV1.out]; exact flip_none V m f hb hf.out j
                have HS := Lib.hid hS
                clear hS hf hm0 hb
                go_wp2_with fail
                refine wp_loop_rounds 1 ?_
                rw [rounds_succ]
                go_wp2_with fail
                go_roundg (8 * s.size - (m + 1))
                case rel => exact ⟨m + 1, f, by omega, rfl, by go_num, HS.out, hnx⟩
                case measure => omega
            · obtain rfl : m = 8 * s.size := by omega
              obtain ⟨V, hV⟩ : ∃ V, Pl.stps (8 * s.size) V0 = V := ⟨_, rfl⟩
              have hVc : V = Pl.crcF 4294967295 s.data.toList := by
                have h := Pl.stps_num s.data.toList 4294967295
                rw [show s.data.toList.length = s.size from by simp, ← HV0.out, hV] at h
                exact h
              have hVl : V < 4294967296 := by rw [hVc]; exact Pl.crcF_lt _ (by omega)
              have hC : Hid (4294967295 - V = Pl.crc s.data.toList) := by show _ = _; rw [hVc]; rfl
              rw [hV] at hf
              have hbits : Hid (∀ d, d < 32 → f (8 * s.size + d) = !(4294967295 - V).testBit d) := fun d hd => by
                rw [comp_bit V d hVl hd, hf.out d, Bool.not_not]
              have hCl : 4294967295 - V < 4294967296 := by omega
              clear hV hVc hf HV0 hVl
              generalize 4294967295 - V = C at *
              have HS := Lib.hid hS
              clear hS
              go_wp2_with fail
              -- the last 32, the highest first
              go_loopg [12, 13] 32 (fun g x k wx => ∃ (c X : Nat), c ≤ 32 ∧ c = g ∧ k = .int .i64 ((c : Int) - 1) ∧ x = .int .u32 X ∧ Hid (X = C / 2 ^ c) ∧ St w wx (8 * s.size + 32) f)
              case atStart => exact ⟨32, 0, by omega, rfl, rfl, rfl, by show _ = _; rw [Nat.div_eq_of_lt (by simpa using hCl)], HS.out⟩
              case round =>
                clear HS
                obtain ⟨c, X, hc32, rfl, rfl, rfl, hX, hS⟩ := hrel
                cases c with
                | zero =>
                  have hX0 : Hid (X = C) := by
                    show _ = _
                    rw [hX.out]
                    simp
                  have HB := Lib.hid hS.since
                  clear hS hX
                  go_wp2_with fail
                  go_ret
                  exact ⟨by rw [← hC.out, ← hX0.out]; rfl, HB.out⟩
                | succ d =>
                  have hd := hbits.out d (by omega)
                  have hcd := hS.row.cell (i := 8 * s.size + d) (by omega)
                  rw [hd] at hcd
                  have hstep := high_step C d
                  have hlt := u32_div C d hCl
                  rw [← hX.out] at hstep
                  have e1 : ((d + 1 : Nat) : Int) - 1 = (d : Int) := by omega
                  rw [e1]
                  have k0 : (0 : Int) ≤ (d : Int) := by omega
                  have k1 : 8 * (s.size : Int) + (d : Int) < 8 * (s.size : Int) + 32 := by omega
                  have k2 : (0 : Int) ≤ 8 * (s.size : Int) + (d : Int) := by omega
                  have HS := Lib.hid hS
                  clear hS hX hd e1
                  by_cases hb : C.testBit d = true
                  · rw [if_pos hb] at hstep
                    rw [hb] at hcd
                    have hX2 : Hid (2 * X + 1 = C / 2 ^ d) := hstep.symm
                    have hl2 : 2 * X + 1 < 4294967296 := by rw [hX2.out]; exact hlt
                    have m1 : 2 * (X : Int) % 4294967296 = 2 * (X : Int) := by omega
                    have m2 : (2 * (X : Int) + 1) % 4294967296 = 2 * (X : Int) + 1 := by omega
                    clear hstep hlt hb
                    go_wp2_with fail
                    go_roundg d
                    case rel => exact ⟨d, 2 * X + 1, by omega, rfl, by go_num, by go_num, hX2, HS.out⟩
                    case measure => omega
                  · have hb : C.testBit d = false := by simpa using hb
                    rw [if_neg (by rw [hb]; decide)] at hstep
                    rw [hb] at hcd
                    have hX2 : Hid (2 * X = C / 2 ^ d) := by show _ = _; omega
                    have hl2 : 2 * X < 4294967296 := by rw [hX2.out]; exact hlt
                    have m1 : 2 * (X : Int) % 4294967296 = 2 * (X : Int) := by omega
                    clear hstep hlt hb
                    go_wp2_with fail
                    go_roundg d
                    case rel => exact ⟨d, 2 * X, by omega, rfl, by go_num, by go_num, hX2, HS.out⟩
                    case measure => omega
end Go.Proofs.Ytmflmckmamckfaa
