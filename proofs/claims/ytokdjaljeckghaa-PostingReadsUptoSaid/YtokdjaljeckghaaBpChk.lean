/-
  What the program's checks of a block answer.
-/
import Derived.Test.YtokdjaljeckghaaBpPk
namespace Go.Proofs.Ytokdjaljeckghaa
open Go.RowKit

set_option maxRecDepth 100000 in
set_option maxHeartbeats 1000000 in
theorem widthNeeded_any (s : ByteArray) (m W : Nat) (w : World) (hW : W ≤ 63) (hm : m ≤ 128) (hs : s.size = Bp.long W m) :
    Calls Try.prog 74 #[.string s, .int .i64 m, .int .i64 W] w fun e' w' => e' = .returned (.int .i64 (Bp.wd (Bp.unpk W m (Pl.num s.data.toList)))) ∧ w = w' := by
  have hWm : W * m ≤ 63 * 128 := Nat.mul_le_mul hW hm
  have hsz : W * m ≤ 8 * s.size ∧ s.size ≤ 1008 := by rw [hs]; unfold Bp.long; omega
  obtain ⟨V, hV⟩ : ∃ V, V = Pl.num s.data.toList := ⟨_, rfl⟩
  have HV := Lib.hid hV
  rw [← hV]
  obtain ⟨l, hl⟩ : ∃ l, l = Bp.unpk W m V := ⟨_, rfl⟩
  have HL := Lib.hid hl
  have hlen : l.length = m := by rw [hl]; exact Bp.unpk_length _ _ _
  have HE := Lib.hid hlen
  have hlt : Hid (∀ x ∈ l, x < 9223372036854775808) := by
    show ∀ x ∈ l, x < 9223372036854775808
    intro x hx
    rw [hl] at hx
    exact Nat.lt_of_lt_of_le (Bp.unpk_lt _ _ _ x hx) (by simpa using Nat.pow_le_pow_right (n := 2) (by omega) hW)
  rw [← hl]
  clear hV hl hlen hs
  obtain ⟨hs1, hs2⟩ := hsz
  go_enter Try.func74, Try.ntmps74
  go_wp2_with fail
  go_loopg [7, 10] m (fun g x i wx => ∃ k O : Nat, w = wx ∧ k ≤ m ∧ g = m - k ∧ i = .int .i64 (k : Int) ∧ x = .int .i64 (O : Int) ∧ O < 9223372036854775808 ∧ Hid (Lib.bitLen O = Bp.wd (l.take k)))
  case atStart => exact ⟨0, 0, rfl, Nat.zero_le _, rfl, rfl, rfl, by omega, rfl⟩
  case round =>
    obtain ⟨k, O, rfl, hk, rfl, rfl, rfl, hO, hOe⟩ := hrel
    by_cases hkl : k < m
    · have i1 : (k : Int) < (m : Int) := by omega
      have hx : k < l.length := by rw [HE.out]; exact hkl
      have hxl := hlt.out l[k] (List.getElem_mem hx)
      have hst := wd_take l k hx
      have hor := Bp.i64_or_nat O l[k] hO hxl
      have hlo : O ||| l[k] < 9223372036854775808 := by simpa using Nat.or_lt_two_pow (n := 63) (by simpa using hO) (by simpa using hxl)
      have hO2 : Hid (Lib.bitLen (O ||| l[k]) = Bp.wd (l.take (k + 1))) := by
        show _ = _
        rw [Bp.len_or O l[k] hO hxl, hst, hOe.out]
      have hkw : (k + 1) * W ≤ m * W := Nat.mul_le_mul_right W hkl
      rw [Nat.add_mul, Nat.one_mul, Nat.mul_comm m W] at hkw
      have hget := getBits_any s (k * W) W w hW (by omega) (by omega)
      have hval : V / 2 ^ (k * W) % 2 ^ W = l[k] := by
        have h := Bp.unpk_get W m V k (by rw [← HL.out]; exact hx)
        rw [Nat.mul_comm] at h
        rw [← h]
        simp only [HL.out]
      rw [← HV.out, hval] at hget
      have HG := Lib.hid hget
      obtain ⟨iw, hiw⟩ : ∃ iw, iw = k * W := ⟨_, rfl⟩
      have hiwm : (k : Int) * (W : Int) = (iw : Int) := by rw [hiw]; simp
      have hiw8 : iw ≤ 8064 := by omega
      rw [← hiw] at HG
      clear hst hOe hget hval hkw hiw
      generalize O ||| l[k] = O2 at *
      generalize l[k] = x at *
      go_wp2_with (go_at_call 69; refine HG.out.mono ?_; rintro e1 w1 ⟨rfl, rfl⟩)
      go_roundg (m - (k + 1))
      case rel => exact ⟨k + 1, O2, rfl, by omega, rfl, by go_num, by first | rfl | go_num, hlo, hO2⟩
      case measure => omega
    · obtain rfl : k = m := by omega
      have hWl : Hid (Lib.bitLen O = Bp.wd l) := by
        show _ = _
        rw [hOe.out, List.take_of_length_le (by rw [HE.out]; exact Nat.le_refl _)]
      have hbits := Lib.hid (bitsOf_any O hO)
      clear hOe
      go_wp2_with (go_at_call 59; refine (hbits.out _).mono ?_; rintro e1 w1 ⟨rfl, rfl⟩)
      go_ret
      exact ⟨by rw [← hWl.out]; rfl, rfl⟩

theorem full_lt (s : ByteArray) : Pl.num s.data.toList < 2 ^ (8 * s.size) := by
  have h := Pl.num_lt s.data.toList
  rw [show s.data.toList.length = s.size from by simp] at h
  exact h
theorem last_iff (V y r b : Nat) (hV : V < 2 ^ (8 * (y + 1))) (hb : V / 256 ^ y % 256 = b) : b / 2 ^ r = 0 ↔ V < 2 ^ (8 * y + r) := by
  rw [Bp.pow256] at hb
  have h1 : V / 2 ^ (8 * y) < 256 := Nat.div_lt_of_lt_mul (by rw [show (256 : Nat) = 2 ^ 8 from rfl, ← Nat.pow_add]; exact hV)
  rw [Nat.mod_eq_of_lt h1] at hb
  rw [← hb, Nat.div_eq_zero_iff, Nat.pow_add]
  have hp := Nat.two_pow_pos r
  constructor
  · rintro (h | h)
    · omega
    · have h2 := (Nat.div_lt_iff_lt_mul (Nat.two_pow_pos _)).1 h
      rw [Nat.mul_comm] at h2
      exact h2
  · intro h
    exact .inr ((Nat.div_lt_iff_lt_mul (Nat.two_pow_pos _)).2 (by rw [Nat.mul_comm]; exact h))

set_option maxRecDepth 100000 in
set_option maxHeartbeats 1000000 in
theorem isFilled_any (s : ByteArray) (p : Nat) (w : World) (hp : p ≤ 8064) (hs : s.size = (p + 7) / 8) :
    Calls Try.prog 75 #[.string s, .int .i64 p] w fun e' w' => e' = .returned (.bool (decide (Pl.num s.data.toList < 2 ^ p))) ∧ w = w' := by
  have hfl := full_lt s
  obtain ⟨r, hr⟩ : ∃ r, r = p % 8 := ⟨_, rfl⟩
  have d1 : (p : Int).tmod 8 = (r : Int) := by rw [Int.tmod_eq_emod_of_nonneg (by omega)]; omega
  have d2 : (p : Int) % 8 = (r : Int) := by omega
  by_cases h0 : r = 0
  · have hfin : Hid (decide (Pl.num s.data.toList < 2 ^ p) = true) := by
      show _ = _
      rw [show 8 * s.size = p from by omega] at hfl
      simpa using hfl
    subst h0
    clear hr hfl hs
    go_enter Try.func75, Try.ntmps75
    go_wp2_with fail
    go_ret
    exact ⟨by rw [hfin.out]; rfl, rfl⟩
  · obtain ⟨y, hy⟩ : ∃ y, s.size = y + 1 := ⟨s.size - 1, by omega⟩
    have hys : y < s.size := by omega
    have hb0 : s[y].toNat < 256 := s[y].toNat_lt
    have hbyte : Pl.num s.data.toList / 256 ^ y % 256 = s[y].toNat := Bp.num_cel s.data.toList y (by simpa using hys)
    have hiff := last_iff (Pl.num s.data.toList) y r s[y].toNat (by rw [← hy]; exact hfl) hbyte
    rw [show 8 * y + r = p from by omega] at hiff
    have hne : ((r : Int) == 0) = false := by simp; omega
    have e1 : (s.size : Int) - 1 = (y : Int) := by omega
    have hdv : (s[y].toNat : Int) / 2 ^ r = ((s[y].toNat / 2 ^ r : Nat) : Int) := by simp
    have hfin : Hid ((((s[y].toNat / 2 ^ r : Nat) : Int) == 0) = decide (Pl.num s.data.toList < 2 ^ p)) := by
      show _ = _
      rw [Bool.eq_iff_iff]
      simp only [beq_iff_eq, decide_eq_true_eq, ← hiff]
      omega
    have r8 : r < 8 := by omega
    have hy8 : y ≤ 1008 := by omega
    have hyi : (y : Int) < (s.size : Int) := by omega
    clear hr hfl hiff hbyte hs hy
    generalize s[y].toNat / 2 ^ r = q at *
    generalize decide (Pl.num s.data.toList < 2 ^ p) = D at *
    go_enter Try.func75, Try.ntmps75
    go_wp2_with fail
    go_ret
    exact ⟨by rw [← hfin.out]; rfl, rfl⟩

set_option maxRecDepth 100000 in
set_option maxHeartbeats 1000000 in
theorem checkBlock_any (s : ByteArray) (m : Nat) (w : World) (hm : m ≤ 128) (hsz : s.size ≤ 1073741824) (e : Int) (he : (Bp.rdBlk m s.data.toList).2.2 = e) :
    Calls Try.prog 67 #[.string s, .int .i64 m] w fun e' w' => e' = .returned (.int .i64 e) ∧ w = w' := by
  by_cases h0 : s.size = 0
  · have h3 := empty_true s h0
    rw [List.length_eq_zero_iff.1 (show s.data.toList.length = 0 from by simpa using h0)] at he
    obtain rfl : 2 = e := he
    clear h0
    go_enter Try.func67, Try.ntmps67
    go_wp2_with fail
    go_ret
    exact ⟨rfl, rfl⟩
  · have hs0 : 0 < s.size := by omega
    have h3 := empty_false s hs0
    have hd : s.data.toList = s[0] :: s.data.toList.drop 1 := drop_cons s 0 hs0
    rw [hd] at he
    simp only [Bp.rdBlk] at he
    have hb0 : s[0].toNat < 256 := s[0].toNat_lt
    by_cases hc : 63 < s[0].toNat
    · rw [if_pos hc] at he
      obtain rfl : 3 = e := he
      have c1 : (63 : Int) < (s[0].toNat : Int) := by omega
      clear hd h0
      go_enter Try.func67, Try.ntmps67
      go_wp2_with fail
      go_ret
      exact ⟨rfl, rfl⟩
    · rw [if_neg hc] at he
      have c1 : ¬ (63 : Int) < (s[0].toNat : Int) := by omega
      have hbs := Lib.hid (blockSize_any s m hs0 hm)
      have hll : (s.data.toList.drop 1).length = s.size - 1 := by rw [List.length_drop]; simp
      rw [hll] at he
      have hL : Bp.long s[0].toNat m ≤ 1008 := by
        have h1 : s[0].toNat * m ≤ 63 * 128 := Nat.mul_le_mul (by omega) hm
        unfold Bp.long
        omega
      by_cases hshort : s.size - 1 < Bp.long s[0].toNat m
      · rw [if_pos hshort] at he
        obtain rfl : 2 = e := he
        have c2 : (s.size : Int) < 1 + (Bp.long s[0].toNat m : Int) := by omega
        clear hd h0 hll hshort
        generalize Bp.long s[0].toNat m = L at *
        go_enter Try.func67, Try.ntmps67
        go_wp2_with (go_at_call 68; refine (hbs.out _).mono ?_; rintro e1 w1 ⟨rfl, rfl⟩)
        go_ret
        exact ⟨rfl, rfl⟩
      · rw [if_neg hshort] at he
        have c2 : ¬ (s.size : Int) < 1 + (Bp.long s[0].toNat m : Int) := by omega
        obtain ⟨sub, hsub⟩ : ∃ sub, sub = s.extract 1 (1 + Bp.long s[0].toNat m) := ⟨_, rfl⟩
        have hsd : sub.data.toList = (s.data.toList.drop 1).take (Bp.long s[0].toNat m) := by
          rw [hsub, Lib.extract_data, Nat.add_sub_cancel_left]
        have hss : sub.size = Bp.long s[0].toNat m := by
          have : sub.size = sub.data.toList.length := by simp
          rw [this, hsd, List.length_take, hll]
          omega
        rw [← hsd] at he
        have hwn := Lib.hid (fun w => widthNeeded_any sub m s[0].toNat w (by omega) hm hss)
        have h1 : s[0].toNat * m ≤ 63 * 128 := Nat.mul_le_mul (by omega) hm
        have hif := Lib.hid (fun w => isFilled_any sub (s[0].toNat * m) w (by omega) hss)
        have hwle : Bp.wd (Bp.unpk s[0].toNat m (Pl.num sub.data.toList)) ≤ s[0].toNat := (Bp.wd_iff _ _ (by omega)).2 (Bp.unpk_lt _ _ _)
        obtain ⟨p, hp⟩ : ∃ p, p = s[0].toNat * m := ⟨_, rfl⟩
        have hp2 : (m : Int) * (s[0].toNat : Int) = (p : Int) := by rw [hp, Nat.mul_comm]; simp
        rw [← hp] at he hif h1
        clear hd h0 hll hshort hsd hss hp
        subst hsub
        generalize Bp.wd (Bp.unpk s[0].toNat m (Pl.num (s.extract 1 (1 + Bp.long s[0].toNat m)).data.toList)) = Wd at *
        by_cases hwd : Wd = s[0].toNat
        · have c3 : ¬ (Wd : Int) < (s[0].toNat : Int) := by omega
          have HE : Hid (e = if decide (Pl.num (s.extract 1 (1 + Bp.long s[0].toNat m)).data.toList < 2 ^ p) = true then 0 else 3) := by
            show _ = _
            rw [← he]
            by_cases hf : Pl.num (s.extract 1 (1 + Bp.long s[0].toNat m)).data.toList < 2 ^ p
            · rw [if_pos ⟨hwd, hf⟩, if_pos (decide_eq_true hf)]
            · rw [if_neg (fun h => hf h.2), if_neg (by rw [decide_eq_false hf]; decide)]
          have HWD := Lib.hid hwd
          clear he hwd
          generalize decide (Pl.num (s.extract 1 (1 + Bp.long s[0].toNat m)).data.toList < 2 ^ p) = D at *
          generalize Bp.long s[0].toNat m = L at *
          cases D with
          | true =>
            obtain rfl : e = 0 := HE.out
            clear HE
            go_enter Try.func67, Try.ntmps67
            go_wp2_with (first | (go_at_call 68; refine (hbs.out _).mono ?_; rintro e1 w1 ⟨rfl, rfl⟩) | (go_at_call 74; refine (hwn.out _).mono ?_; rintro e1 w1 ⟨rfl, rfl⟩) | (go_at_call 75; refine (hif.out _).mono ?_; rintro e1 w1 ⟨rfl, rfl⟩))
            go_ret
            exact ⟨rfl, rfl⟩
          | false =>
            obtain rfl : e = 3 := HE.out
            clear HE
            go_enter Try.func67, Try.ntmps67
            go_wp2_with (first | (go_at_call 68; refine (hbs.out _).mono ?_; rintro e1 w1 ⟨rfl, rfl⟩) | (go_at_call 74; refine (hwn.out _).mono ?_; rintro e1 w1 ⟨rfl, rfl⟩) | (go_at_call 75; refine (hif.out _).mono ?_; rintro e1 w1 ⟨rfl, rfl⟩))
            go_ret
            exact ⟨rfl, rfl⟩
        · have c3 : (Wd : Int) < (s[0].toNat : Int) := by omega
          rw [if_neg (fun h => hwd h.1)] at he
          obtain rfl : 3 = e := he
          clear hwd hif
          generalize Bp.long s[0].toNat m = L at *
          go_enter Try.func67, Try.ntmps67
          go_wp2_with (first | (go_at_call 68; refine (hbs.out _).mono ?_; rintro e1 w1 ⟨rfl, rfl⟩) | (go_at_call 74; refine (hwn.out _).mono ?_; rintro e1 w1 ⟨rfl, rfl⟩))
          go_ret
          exact ⟨rfl, rfl⟩
end Go.Proofs.Ytokdjaljeckghaa
