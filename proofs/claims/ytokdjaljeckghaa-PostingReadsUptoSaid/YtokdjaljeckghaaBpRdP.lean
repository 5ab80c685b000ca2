/-
  What the program's checkBlocks and readBlock answer.
-/
import Derived.Test.YtokdjaljeckghaaBpChk
import Derived.BigQuiet
namespace Go.Proofs.Ytokdjaljeckghaa
open Go.RowKit

theorem rdCh_err : ∀ (k n : Nat) (S : List UInt8) (acc : List Nat) (z : Nat), (Bp.rdCh k n S acc z).2.2 = (Bp.rdCh k n S [] 0).2.2 := by
  intro k
  induction k with
  | zero => intro n S acc z; rfl
  | succ k ih =>
    intro n S acc z
    simp only [Bp.rdCh]
    split
    · rfl
    · split
      · rfl
      · rw [ih, ih (n - Nat.min n 128) _ ([] ++ _)]
theorem rdBlk_ok (m : Nat) (s : ByteArray) (h : (Bp.rdBlk m s.data.toList).2.2 = 0) : ∃ hs : 0 < s.size, s[0].toNat ≤ 63 ∧ 1 + Bp.long s[0].toNat m ≤ s.size ∧
    Bp.rdBlk m s.data.toList = (Bp.unpk s[0].toNat m (Pl.num (s.extract 1 (1 + Bp.long s[0].toNat m)).data.toList), 1 + Bp.long s[0].toNat m, 0) := by
  by_cases h0 : s.size = 0
  · rw [List.length_eq_zero_iff.1 (show s.data.toList.length = 0 from by simpa using h0)] at h
    simp [Bp.rdBlk] at h
  · have hs0 : 0 < s.size := by omega
    have hd : s.data.toList = s[0] :: s.data.toList.drop 1 := drop_cons s 0 hs0
    have hll : (s.data.toList.drop 1).length = s.size - 1 := by rw [List.length_drop]; simp
    have hx : (s.extract 1 (1 + Bp.long s[0].toNat m)).data.toList = (s.data.toList.drop 1).take (Bp.long s[0].toNat m) := by
      rw [Lib.extract_data, Nat.add_sub_cancel_left]
    refine ⟨hs0, ?_⟩
    rw [hx]
    generalize s.data.toList.drop 1 = t at *
    rw [hd] at h ⊢
    simp only [Bp.rdBlk] at h ⊢
    rw [hll] at h ⊢
    by_cases hc : 63 < s[0].toNat
    · rw [if_pos hc] at h; simp at h
    · rw [if_neg hc] at h ⊢
      by_cases hl : s.size - 1 < Bp.long s[0].toNat m
      · rw [if_pos hl] at h; simp at h
      · rw [if_neg hl] at h ⊢
        refine ⟨by omega, by omega, ?_⟩
        split at h
        · rename_i hq
          rw [if_pos hq]
        · simp at h

set_option maxRecDepth 100000 in
set_option maxHeartbeats 1000000 in
theorem checkBlocks_any (s : ByteArray) (n : Nat) (w : World) (hn : n ≤ 9223372036854775807) (hsz : s.size ≤ 1073741824) (e : Int) (he : (Bp.rdCh n n s.data.toList [] 0).2.2 = e) :
    Calls Try.prog 49 #[.string s, .int .i64 n] w fun e' w' => e' = .returned (.int .i64 e) ∧ w = w' := by
  have HE := Lib.hid he
  clear he
  go_enter Try.func49, Try.ntmps49
  go_wp2_with fail
  go_loopg [0, 1] n (fun g sv nv wx => ∃ (k : Nat) (s' : ByteArray), w = wx ∧ g ≤ k ∧ g ≤ n ∧ nv = .int .i64 (g : Int) ∧ sv = .string s' ∧ s'.size ≤ 1073741824 ∧ Hid ((Bp.rdCh k g s'.data.toList [] 0).2.2 = e))
  case atStart => exact ⟨n, s, rfl, Nat.le_refl _, Nat.le_refl _, rfl, rfl, hsz, HE⟩
  case round =>
    clear HE hsz
    obtain ⟨k, s', rfl, hk, hgn, rfl, rfl, hsz, hE⟩ := hrel
    by_cases h0 : gk = 0
    · subst h0
      have hfin : (0 : Int) = e := by
        have h := hE.out
        cases k with
        | zero => simpa [Bp.rdCh] using h
        | succ k => simpa [Bp.rdCh] using h
      subst hfin
      clear hE
      go_wp2_with fail
      go_ret
      exact ⟨rfl, rfl⟩
    · obtain ⟨k', rfl⟩ : ∃ k', k = k' + 1 := ⟨k - 1, by omega⟩
      have i1 : (0 : Int) < (gk : Int) := by omega
      obtain ⟨m, hm⟩ : ∃ m, m = Nat.min gk 128 := ⟨_, rfl⟩
      have hm2 : m ≤ gk ∧ m ≤ 128 ∧ 0 < m := by
        have h1 : m = min gk 128 := hm
        omega
      have hIn := Lib.hid (inBlock_any gk (by omega))
      have hE' := hE.out
      simp only [Bp.rdCh] at hE'
      rw [if_neg h0, ← hm] at hE'
      rw [← hm] at hIn
      have hck := Lib.hid (fun w => checkBlock_any s' m w hm2.2.1 hsz _ rfl)
      obtain ⟨m1, m2, m3⟩ := hm2
      by_cases hok : (Bp.rdBlk m s'.data.toList).2.2 = 0
      · obtain ⟨hs0, hc63, hsz1, hrd⟩ := rdBlk_ok m s' hok
        rw [hrd] at hE' hck
        simp only [ne_eq, not_true, if_false] at hE'
        have hbs := Lib.hid (blockSize_any s' m hs0 m2)
        have hE2 : Hid ((Bp.rdCh k' (gk - m) (s'.extract (1 + Bp.long s'[0].toNat m) s'.size).data.toList [] 0).2.2 = e) := by
          show _ = _
          rw [rdCh_err] at hE'
          rw [← hE']
          have h := rest_data s' ((1 + Bp.long s'[0].toNat m : Nat) : Int)
          unfold rest at h
          rw [Int.toNat_natCast] at h
          rw [h]
        have hL1 : 1 + (Bp.long s'[0].toNat m : Int) ≤ (s'.size : Int) := by omega
        have hs2 : (s'.extract (1 + Bp.long s'[0].toNat m) s'.size).size ≤ 1073741824 := by
          rw [ByteArray.size_extract]
          omega
        clear hE hE' hok hrd hm
        generalize Bp.long s'[0].toNat m = L at *
        go_wp2_with (first | (go_at_call 42; refine (hIn.out _).mono ?_; rintro e1 w3 ⟨rfl, rfl⟩) | (go_at_call 67; refine (hck.out _).mono ?_; rintro e1 w3 ⟨rfl, rfl⟩) | (go_at_call 68; refine (hbs.out _).mono ?_; rintro e1 w3 ⟨rfl, rfl⟩))
        go_roundg (gk - m)
        case rel => exact ⟨k', _, rfl, by omega, by omega, by go_num, rfl, hs2, hE2⟩
        case measure => omega
      · rw [if_pos hok] at hE'
        have hne : ((Bp.rdBlk m s'.data.toList).2.2 != 0) = true := by simpa using hok
        obtain ⟨e1, he1⟩ : ∃ e1, e1 = (Bp.rdBlk m s'.data.toList).2.2 := ⟨_, rfl⟩
        rw [← he1] at hne hck hE'
        obtain rfl : e1 = e := hE'
        clear hE hok hm he1
        go_wp2_with (first | (go_at_call 42; refine (hIn.out _).mono ?_; rintro e1 w3 ⟨rfl, rfl⟩) | (go_at_call 67; refine (hck.out _).mono ?_; rintro e1 w3 ⟨rfl, rfl⟩))
        go_ret
        exact ⟨rfl, rfl⟩

set_option maxRecDepth 100000 in
set_option maxHeartbeats 2000000 in
theorem readBlock_any (w w0 : World) (B : Nat) (v : Value) (acc : List Int) (s : ByteArray) (m : Nat) (hm : m ≤ 128) (hsz : s.size ≤ 1073741824) (hs0 : 0 < s.size) (hc : s[0].toNat ≤ 63) (hL : 1 + Bp.long s[0].toNat m ≤ s.size)
    (hown : OwnI w B v acc) (hbel : Below B w0 w) (hB : B ≤ w.heap.size) (hl : acc.length + 200 ≤ 1099511627776) (sub : ByteArray) (hsub : sub = s.extract 1 (1 + Bp.long s[0].toNat m)) :
    Calls Try.prog 51 #[v, .string s, .int .i64 m] w fun e' w' => ∃ v', e' = .returned (.tuple #[v', .string (s.extract (1 + Bp.long s[0].toNat m) s.size)]) ∧ OwnI w' B v' (acc ++ (Bp.unpk s[0].toNat m (Pl.num sub.data.toList)).map Int.ofNat) ∧ Below B w0 w' := by
  obtain ⟨ii, hi, hz0, hz1, hz2⟩ := info_parts Try.infoI
  have hb0 : s[0].toNat < 256 := s[0].toNat_lt
  obtain ⟨W, hWe⟩ : ∃ W, W = s[0].toNat := ⟨_, rfl⟩
  have hbs : Hid (∀ w1 : World, Calls Try.prog 68 #[.string s, .int .i64 m] w1 fun e w' => e = .returned (.int .i64 (1 + (Bp.long s[0].toNat m : Int))) ∧ w' = w1) := fun w1 => (blockSize_any s m hs0 hm w1).mono fun _ _ h => ⟨h.1, h.2.symm⟩
  have hWm : W * m ≤ 63 * 128 := Nat.mul_le_mul (by omega) hm
  have hss : sub.size = Bp.long s[0].toNat m := by
    rw [hsub, ByteArray.size_extract]
    omega
  have hs8 : W * m ≤ 8 * sub.size ∧ sub.size ≤ 1008 := by rw [hss, ← hWe]; unfold Bp.long; omega
  have hWi : (s[0].toNat : Int) = (W : Int) := by rw [hWe]
  obtain ⟨l, hle⟩ : ∃ l, l = Bp.unpk W m (Pl.num sub.data.toList) := ⟨_, rfl⟩
  have hlen : l.length = m := by rw [hle]; exact Bp.unpk_length _ _ _
  have HE := Lib.hid hlen
  have hget : Hid (∀ (k : Nat) (hk : k < l.length) (w1 : World), Calls Try.prog 69 #[.string sub, .int .i64 ((k * W : Nat) : Int), .int .i64 W] w1 fun e' w' => e' = .returned (.int .i64 (l[k] : Int)) ∧ w1 = w') := fun k hk w1 => by
    have hkm : k < m := by rw [hlen] at hk; exact hk
    have hkw : (k + 1) * W ≤ m * W := Nat.mul_le_mul_right W hkm
    rw [Nat.add_mul, Nat.one_mul, Nat.mul_comm m W] at hkw
    have h := getBits_any sub (k * W) W w1 (by omega) (by omega) (by omega)
    have hv : Pl.num sub.data.toList / 2 ^ (k * W) % 2 ^ W = l[k] := by
      have h2 := Bp.unpk_get W m (Pl.num sub.data.toList) k (by rw [← hle]; exact hk)
      rw [Nat.mul_comm] at h2
      rw [← h2]
      simp only [hle]
    rw [hv] at h
    exact h
  have hlt : Hid (∀ x ∈ l, x < 9223372036854775808) := by
    show ∀ x ∈ l, x < 9223372036854775808
    intro x hx
    rw [hle] at hx
    exact Nat.lt_of_lt_of_le (Bp.unpk_lt _ _ _ x hx) (by simpa using Nat.pow_le_pow_right (n := 2) (by omega) (by omega : W ≤ 63))
  rw [← hWe, ← hle]
  rw [← hWe] at hbs hsub hL
  have HO := Lib.hid hown
  have HBE := Lib.hid hbel
  have HSS := Lib.hid hss
  have HWI := Lib.hid hWi
  have hLi : 1 + (Bp.long W m : Int) ≤ (s.size : Int) := by omega
  have hL8 : Bp.long W m ≤ 1008 := by unfold Bp.long; omega
  subst hsub
  clear hle hlen hown hbel hss hs8 hWm
  generalize Bp.long W m = L at *
  have hb63 : s[0].toNat ≤ 63 := hc
  clear hWe
  go_enter Try.func51, Try.ntmps51
  go_wp2_with fail
  go_quiet (first | (go_at_call 68; refine Calls.quiet_of_same (hbs.out _)))
  go_wp2_with fail
  have HO0 : Hid (OwnI (w.drewN nq) B v acc) := HO.out.keep (belowN (Below.refl _ _) nq) (Nat.le_refl _)
  have HB0 : Hid (Below B w0 (w.drewN nq)) := belowN HBE.out nq
  have hB0 : B ≤ (w.drewN nq).heap.size := hB
  clear HO HBE hbs
  generalize w.drewN nq = w1 at *
  -- number by number
  go_loopg [0, 18] m (fun g v i wx => ∃ k : Nat, k ≤ m ∧ g = m - k ∧ i = .int .i64 (k : Int) ∧ OwnI wx B v (acc ++ (l.take k).map Int.ofNat) ∧ Below B w0 wx ∧ B ≤ wx.heap.size)
  case atStart => exact ⟨0, Nat.zero_le _, rfl, rfl, by rw [List.take_zero, List.map_nil, List.append_nil]; exact HO0.out, HB0.out, hB0⟩
  case round =>
    clear HO0 HB0 hB0
    obtain ⟨k, hk, rfl, rfl, hown, hbel, hBr⟩ := hrel
    by_cases hkm : k < m
    · have i1 : (k : Int) < (m : Int) := by omega
      have hx : k < l.length := by rw [HE.out]; exact hkm
      have hg := Lib.hid (hget.out k hx)
      have hst : Hid (acc ++ (l.take (k + 1)).map Int.ofNat = (acc ++ (l.take k).map Int.ofNat) ++ [((l[k] : Nat) : Int)]) := by
        show _ = _
        rw [List.take_succ_eq_append_getElem hx, List.map_append, List.append_assoc]
        rfl
      have hln : (acc ++ (l.take k).map Int.ofNat).length ≤ acc.length + 128 := by
        rw [List.length_append, List.length_map, List.length_take]
        omega
      have hxl := hlt.out l[k] (List.getElem_mem hx)
      obtain ⟨iw, hiw⟩ : ∃ iw, iw = k * W := ⟨_, rfl⟩
      have hiwm : (k : Int) * (W : Int) = (iw : Int) := by rw [hiw]; simp
      have hiw8 : iw ≤ 16384 := by
        rw [hiw]
        have h1 : k * W ≤ 128 * 63 := Nat.mul_le_mul (by omega) (by omega)
        omega
      rw [← hiw] at hg
      clear hiw
      generalize l[k] = x at *
      generalize acc ++ (l.take k).map Int.ofNat = cur at *
      have hown' : wr.ownsRow B 3 1 u0 cur.length (intsV cur) := hown
      have HBL := Lib.hid hbel
      have HOWN := Lib.hid hown
      clear hown hbel
      go_wp2_with (first | (go_at_call 69; refine (hg.out _).mono ?_; rintro e1 w3 ⟨rfl, rfl⟩) | (at_builtin; refine wpList_append_own _ rfl _ _ 38 rfl B 3 ii (.int .i64 0) 1 8 Try.underlying38 hi hz0 hz1 hz2 rfl (by decide) _ _ _ rfl (hown'.alloc _) ⟨wr.heap.size, 0, none⟩ 1 1 [.int .i64 (x : Int)] rfl rfl ?c1 ?c2 ?c3 ?c4 ?c5 ?_))
      case c1 =>
        intro j u hj
        match j, hj with
        | 0, hj => simp at hj; subst hj; simp [Addr.add]
      case c2 => intro u hu; simp at hu; subst hu; rfl
      case c3 => unfold maxLen; omega
      case c4 => omega
      case c5 => simp; omega
      · intro v' w2 hown1 hgrow _
        have R := ownI_push hBr HOWN.out HBL.out hown1 hgrow
        have hB2 : B ≤ w2.heap.size := by have := hgrow.size; simp at this; omega
        rw [← hst.out] at R
        obtain ⟨R1, R2⟩ := R
        have HR1 := Lib.hid R1
        have HR2 := Lib.hid R2
        clear hown1 hgrow HOWN hown' HBL R1 R2 hst
        go_wp2
        go_roundg (m - (k + 1))
        case rel => exact ⟨k + 1, by omega, rfl, by go_num, HR1.out, HR2.out, hB2⟩
        case measure => omega
    · obtain rfl : k = m := by omega
      have hfin : Hid (l.take k = l) := by show _ = _; exact List.take_of_length_le (by rw [HE.out]; exact Nat.le_refl _)
      rw [hfin.out] at hown
      have HO := Lib.hid hown
      have HB := Lib.hid hbel
      clear hown hbel
      go_wp2_with fail
      go_quiet (fail)
      go_wp2_with fail
      go_ret2
      exact ⟨_, rfl, HO.out.keep (belowN (Below.refl _ _) _) (Nat.le_refl _), belowN HB.out _⟩
end Go.Proofs.Ytokdjaljeckghaa
