/-
  What the document's own take answers: numbers of so many bits out of bytes.
-/
import Derived.Test.YtokdjaljeckghaaInts
namespace Go.Proofs.Ytokdjaljeckghaa
open Go.RowKit

/-- The row of numbers, as it lies. -/
structure Tk (w wx : World) (N : Nat) (f : Nat → Nat) : Prop where
  since : Below w.heap.size w wx
  row : wx.rowIs w.heap.size 3 N (fun j => .int .i64 (f j : Int))
theorem Tk.congr {w wx : World} {N : Nat} {f g : Nat → Nat} (h : Tk w wx N f) (e : ∀ j, j < N → f j = g j) : Tk w wx N g :=
  ⟨h.since, h.row.congr fun j hj => by rw [e j hj]⟩
theorem Tk.set {w wx : World} {N : Nat} {f : Nat → Nat} (h : Tk w wx N f) (p v : Nat) :
    Tk w (wx.setCell ⟨w.heap.size, p, none⟩ (.int .i64 (v : Int))) N (fun j => if j = p then v else f j) :=
  ⟨h.since.setCell (Nat.le_refl _) _, (h.row.set p _).congr fun j _ => by by_cases e : j = p <;> simp [e]⟩
/-- So many of the numbers are whole, of the next one so many bits. -/
def fTake (V W i k : Nat) : Nat → Nat := fun j => if j < i then V / 2 ^ (W * j) % 2 ^ W else if j = i then V / 2 ^ (W * i) % 2 ^ k else 0
theorem fTake_here (V W i k : Nat) : fTake V W i k i = V / 2 ^ (W * i) % 2 ^ k := by simp [fTake]
theorem fTake_step (V W i k v j : Nat) (hv : v = V / 2 ^ (W * i) % 2 ^ (k + 1)) : (if j = i then v else fTake V W i k j) = fTake V W i (k + 1) j := by
  unfold fTake
  by_cases e : j = i
  · subst e
    simp [hv]
  · rw [if_neg e, if_neg e, if_neg e]
theorem fTake_next (V W i j : Nat) : fTake V W i W j = fTake V W (i + 1) 0 j := by
  unfold fTake
  by_cases h1 : j < i
  · rw [if_pos h1, if_pos (by omega)]
  · rw [if_neg h1]
    by_cases h2 : j = i
    · subst h2
      rw [if_pos rfl, if_pos (by omega)]
    · rw [if_neg h2, if_neg (by omega)]
      by_cases h3 : j = i + 1
      · rw [if_pos h3, Nat.pow_zero, Nat.mod_one]
      · rw [if_neg h3]

set_option maxRecDepth 100000 in
set_option maxHeartbeats 2000000 in
theorem takeR_any (w : World) (s : ByteArray) (W n : Nat) (hW : W ≤ 63) (hn : n ≤ 128) (hs : s.size = Bp.long W n) :
    Calls Try.prog 55 #[.string s, .int .i64 W, .int .i64 n] w fun e' w' => e' = .returned (.slice (some ⟨w.heap.size, 0, none⟩) n n) ∧ Tk w w' n (fun j => Pl.num s.data.toList / 2 ^ (W * j) % 2 ^ W) := by
  have hmk := run_make_row' (P := Try.prog) 38 3 (.int .i64 0) 8 Try.underlying38 Try.infoI rfl .i64 .i64 n (by omega) (by omega)
  obtain ⟨V, hV⟩ : ∃ V, Pl.num s.data.toList = V := ⟨_, rfl⟩
  have HV := Lib.hid hV
  rw [hV]
  have hst : Hid (Tk w (w.alloc (.cells (madeCells #[.int .i64 0] n) 3)) n (fTake V W 0 0)) := ⟨(Below.refl _ _).alloc (Nat.le_refl _) _, (World.rowIs_made w (.int .i64 0) n 3).congr fun j _ => by
    have : fTake V W 0 0 j = 0 := by unfold fTake; rw [if_neg (by omega)]; split <;> simp [Nat.mod_one]
    rw [this]
    rfl⟩
  have hS := Lib.hid hs
  have hsz : s.size ≤ 9223372036854775807 := by rw [hs]; have : W * n ≤ 63 * 128 := Nat.mul_le_mul hW hn; unfold Bp.long; omega
  clear hs hV
  go_enter Try.func55, Try.ntmps55
  go_wp2_with fail
  generalize w.alloc (.cells (madeCells #[.int .i64 0] n) 3) = w0 at *
  clear hmk
  go_loopg [8] n (fun g i wx => ∃ k : Nat, k ≤ n ∧ g = n - k ∧ i = .int .i64 k ∧ Tk w wx n (fTake V W k 0))
  case atStart => exact ⟨0, Nat.zero_le _, rfl, rfl, hst.out⟩
  case round =>
    clear hst
    obtain ⟨i, hi, rfl, rfl, hT⟩ := hrel
    have HT := Lib.hid hT
    clear hT
    by_cases hin : i < n
    · have i1 : (i : Int) < (n : Int) := by omega
      go_wp2_with fail
      go_loopg [9, 10] W (fun g u q wx => ∃ (k : Nat) (U : Int), k ≤ W ∧ g = W - k ∧ q = .int .i64 k ∧ u = .int .i64 U ∧ Hid (k < 63 → U = ((2 ^ k : Nat) : Int)) ∧ Tk w wx n (fTake V W i k))
      case atStart => exact ⟨0, 1, Nat.zero_le _, rfl, rfl, rfl, fun _ => rfl, HT.out⟩
      case round =>
        clear HT
        obtain ⟨k, U, hk, rfl, rfl, rfl, hU, hT⟩ := hrel
        have HT := Lib.hid hT
        clear hT
        by_cases hkW : k < W
        · have k1 : (k : Int) < (W : Int) := by omega
          obtain ⟨t, ht⟩ : ∃ t, t = i * W + k := ⟨_, rfl⟩
          have htl : t < W * n := by
            have h1 : (i + 1) * W ≤ n * W := Nat.mul_le_mul_right W hin
            rw [Nat.add_mul, Nat.one_mul, Nat.mul_comm n W] at h1
            omega
          have ht0 : W * n ≤ 8064 := Nat.mul_le_mul hW hn
          obtain ⟨iw, hiw⟩ : ∃ iw, iw = i * W := ⟨_, rfl⟩
          have hiwm : (i : Int) * (W : Int) = (iw : Int) := by rw [hiw]; simp
          have htw : t = iw + k := by rw [ht, hiw]
          obtain ⟨y, hy⟩ : ∃ y, y = t / 8 := ⟨_, rfl⟩
          obtain ⟨r, hr⟩ : ∃ r, r = t % 8 := ⟨_, rfl⟩
          have hys : y < s.size := by
            rw [hS.out]
            unfold Bp.long
            omega
          have m1 : ((iw : Int) + (k : Int)).tdiv 8 = (y : Int) := by rw [Int.tdiv_eq_ediv_of_nonneg (by omega)]; omega
          have m2 : ((iw : Int) + (k : Int)).tmod 8 = (r : Int) := by rw [Int.tmod_eq_emod_of_nonneg (by omega)]; omega
          have m3 : ((iw : Int) + (k : Int)) / 8 = (y : Int) := by omega
          have m4 : ((iw : Int) + (k : Int)) % 8 = (r : Int) := by omega
          have y1 : (y : Int) < (s.size : Int) := by omega
          have r8 : r < 8 := by omega
          have hbit : Hid (V / 2 ^ (W * i + k) % 2 = s[y].toNat / 2 ^ r % 2) := by
            have hl : y < s.data.toList.length := by simpa using hys
            have h := Pl.num_bit s.data.toList y r hl r8
            rw [HV.out, show 8 * y + r = W * i + k from by rw [Nat.mul_comm W i]; omega, Nat.testBit_eq_decide_div_mod_eq] at h
            have h2 := decide_eq_decide.1 h
            have e : s.data.toList[y] = s[y] := rfl
            rw [e] at h2
            show _ = _
            omega
          have hb0 : s[y].toNat < 256 := s[y].toNat_lt
          clear hy hr ht hiw
          go_wp2_with fail
          go_loopg [12, 13] r (fun g x m wx => ∃ z X : Nat, wr = wx ∧ z ≤ r ∧ g = r - z ∧ m = .int .i64 z ∧ x = .int .i64 X ∧ X < 256 ∧ Hid (X = s[y].toNat / 2 ^ z))
          case atStart => exact ⟨0, s[y].toNat, rfl, Nat.zero_le _, rfl, rfl, rfl, hb0, by show _ = _; simp⟩
          case round =>
            obtain ⟨z, X, rfl, hz, rfl, rfl, rfl, hX, hXe⟩ := hrel
            have d1 : (X : Int).tdiv 2 = ((X / 2 : Nat) : Int) := by rw [Int.tdiv_eq_ediv_of_nonneg (by omega)]; omega
            have d2 : (X : Int) / 2 = ((X / 2 : Nat) : Int) := by omega
            by_cases hzr : z < r
            · have z1 : (z : Int) < (r : Int) := by omega
              have hX2 : Hid (X / 2 = s[y].toNat / 2 ^ (z + 1)) := by
                show _ = _
                rw [hXe.out, Nat.pow_succ, Nat.div_div_eq_div_mul]
              have hXl : X / 2 < 256 := by omega
              clear hXe
              generalize X / 2 = X2 at *
              go_wp2_with fail
              go_roundg (r - (z + 1))
              case rel => exact ⟨z + 1, X2, rfl, by omega, rfl, by go_num, rfl, hXl, hX2⟩
              case measure => omega
            · obtain rfl : z = r := by omega
              have hrow := HT.out.row.cell (i := i) hin
              have hfrz := HT.out.row.frozen i
              have hhere : fTake V W i k i = V / 2 ^ (W * i) % 2 ^ k := fTake_here V W i k
              have hstep : V / 2 ^ (W * i) % 2 ^ (k + 1) = V / 2 ^ (W * i) % 2 ^ k + 2 ^ k * (X % 2) := by
                rw [mod_step, Nat.div_div_eq_div_mul, ← Nat.pow_add, hbit.out, hXe.out]
              have hUv : U = ((2 ^ k : Nat) : Int) := hU.out (by omega)
              have hfl : V / 2 ^ (W * i) % 2 ^ k < 2 ^ k := Nat.mod_lt _ (Nat.two_pow_pos k)
              have hp62 : 2 ^ k ≤ 4611686018427387904 := by simpa using Nat.pow_le_pow_right (n := 2) (by omega) (by omega : k ≤ 62)
              rw [hhere] at hrow
              have hU2 : Hid (k + 1 < 63 → wrap64 (2 * U) = ((2 ^ (k + 1) : Nat) : Int)) := by
                intro h
                have hp61 : 2 ^ k ≤ 2305843009213693952 := by simpa using Nat.pow_le_pow_right (n := 2) (by omega) (by omega : k ≤ 61)
                rw [hUv, Nat.pow_succ]
                unfold wrap64
                omega
              obtain ⟨Y, hY⟩ : ∃ Y, Y = V / 2 ^ (W * i) % 2 ^ k := ⟨_, rfl⟩
              rw [← hY] at hrow hfl hstep
              obtain ⟨P, hP⟩ : ∃ P, P = 2 ^ k := ⟨_, rfl⟩
              rw [← hP] at hUv hfl hp62 hstep
              by_cases hodd : X % 2 = 1
              · have o1 : (X : Int).tmod 2 = 1 := by rw [Int.tmod_eq_emod_of_nonneg (by omega)]; omega
                have o2 : (X : Int) % 2 = 1 := by omega
                have hN : Hid (Tk w _ n (fTake V W i (k + 1))) := (HT.out.set i (Y + P)).congr fun j _ => fTake_step V W i k _ j (by rw [hstep, hodd]; omega)
                have hadd : (Y : Int) + U = ((Y + P : Nat) : Int) := by rw [hUv]; omega
                have hr1 : -9223372036854775808 ≤ (Y : Int) + U ∧ (Y : Int) + U ≤ 9223372036854775807 := by omega
                clear hodd hstep hXe hhere HT hP hY hUv hU d1 d2
                go_wp2_with fail
                go_roundg (W - (k + 1))
                case rel => exact ⟨k + 1, _, by omega, rfl, by go_num, rfl, hU2, hN.out⟩
                case measure => omega
              · have o1 : (X : Int).tmod 2 = 0 := by rw [Int.tmod_eq_emod_of_nonneg (by omega)]; omega
                have o2 : (X : Int) % 2 = 0 := by omega
                have hN : Hid (Tk w wr n (fTake V W i (k + 1))) := HT.out.congr fun j _ => by
                  have h := fTake_step V W i k (fTake V W i k i) j (by rw [hhere, hstep, show X % 2 = 0 from by omega]; omega)
                  rw [← h]
                  by_cases e : j = i <;> simp [e]
                clear hodd hstep hXe hhere HT hP hY hUv hU d1 d2
                go_wp2_with fail
                go_roundg (W - (k + 1))
                case rel => exact ⟨k + 1, _, by omega, rfl, by go_num, rfl, hU2, hN.out⟩
                case measure => omega
        · obtain rfl : k = W := by omega
          have hN : Hid (Tk w wr n (fTake V k (i + 1) 0)) := HT.out.congr fun j _ => fTake_next V k i j
          clear HT hU
          go_wp2_with fail
          go_roundg (n - (i + 1))
          case rel => exact ⟨i + 1, by omega, rfl, by go_num, hN.out⟩
          case measure => omega
    · obtain rfl : i = n := by omega
      have hN : Hid (Tk w wr i (fun j => V / 2 ^ (W * j) % 2 ^ W)) := HT.out.congr fun j hj => by unfold fTake; rw [if_pos hj]
      clear HT
      go_wp2_with fail
      go_ret
      exact ⟨rfl, hN.out⟩
/-- .. as a slice of numbers. -/
theorem Tk.ints {w wx : World} {W n V : Nat} (h : Tk w wx n (fun j => V / 2 ^ (W * j) % 2 ^ W)) (hn : n ≤ 128) : IntS wx (.slice (some ⟨w.heap.size, 0, none⟩) n n) ((Bp.unpk W n V).map Int.ofNat) := by
  have hl : ((Bp.unpk W n V).map Int.ofNat).length = n := by rw [List.length_map, Bp.unpk_length]
  refine ⟨_, n, by rw [hl], by omega, by omega, fun _ => ⟨w.heap.size, 0, rfl, h.row.lt, fun j hj => ?_⟩⟩
  rw [Nat.zero_add, h.row.cell (by omega), List.getElem_map, Bp.unpk_get]
  rfl
end Go.Proofs.Ytokdjaljeckghaa
