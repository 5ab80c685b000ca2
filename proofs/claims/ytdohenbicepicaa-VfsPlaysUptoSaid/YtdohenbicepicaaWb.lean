/-
  The program's disk: names, mixed numbers, and the small calls.
-/
import Derived.Test.YtdohenbicepicaaWa
namespace Go.Proofs.Ytdohenbicepicaa
open Go.RowKit Go.Maps

set_option maxRecDepth 100000 in
set_option maxHeartbeats 2000000 in
theorem inNameP_any (w : World) (c : UInt8) :
    Calls Try.prog 64 #[.int .u8 (c.toNat : Int)] w fun e' w' => e' = .returned (.bool (Vf.okC c)) ∧ w = w' := by
  have hb : c.toNat < 256 := c.toNat_lt
  obtain ⟨r, hr⟩ : ∃ r, r = Vf.okC c := ⟨_, rfl⟩
  rw [← hr]
  unfold Vf.okC at hr
  obtain ⟨q, hq⟩ : ∃ q : Nat, q = c.toNat := ⟨_, rfl⟩
  rw [← hq] at hr hb ⊢
  clear hq
  by_cases c1 : 97 ≤ q
  · have d1 : (97 : Int) ≤ (q : Int) := by omega
    by_cases c2 : q ≤ 122
    · have d2 : (q : Int) ≤ 122 := by omega
      obtain rfl : r = true := by simp [hr, c1, c2]
      clear hr
      go_enter Try.func64, Try.ntmps64
      go_wp2_with fail
      go_ret
      exact ⟨rfl, rfl⟩
    · have d2 : ¬ (q : Int) ≤ 122 := by omega
      have d3 : (48 : Int) ≤ (q : Int) := by omega
      have d4 : ¬ (q : Int) ≤ 57 := by omega
      have d5 : ((q : Int) == 95) = false := by simp; omega
      have d6 : ((q : Int) == 46) = false := by simp; omega
      obtain rfl : r = false := by simp [hr]; omega
      clear hr
      go_enter Try.func64, Try.ntmps64
      go_wp2_with fail
      go_ret
      exact ⟨rfl, rfl⟩
  · have d1 : ¬ (97 : Int) ≤ (q : Int) := by omega
    by_cases c3 : 48 ≤ q
    · have d3 : (48 : Int) ≤ (q : Int) := by omega
      by_cases c4 : q ≤ 57
      · have d4 : (q : Int) ≤ 57 := by omega
        obtain rfl : r = true := by simp [hr, c3, c4]
        clear hr
        go_enter Try.func64, Try.ntmps64
        go_wp2_with fail
        go_ret
        exact ⟨rfl, rfl⟩
      · have d4 : ¬ (q : Int) ≤ 57 := by omega
        by_cases c5 : q = 95
        · subst c5
          obtain rfl : r = true := by simp [hr]
          clear hr
          go_enter Try.func64, Try.ntmps64
          go_wp2_with fail
          go_ret
          exact ⟨rfl, rfl⟩
        · have d5 : ((q : Int) == 95) = false := by simp; omega
          have d6 : ((q : Int) == 46) = false := by simp; omega
          obtain rfl : r = false := by simp [hr]; omega
          clear hr c5
          go_enter Try.func64, Try.ntmps64
          go_wp2_with fail
          go_ret
          exact ⟨rfl, rfl⟩
    · have d3 : ¬ (48 : Int) ≤ (q : Int) := by omega
      have d5 : ((q : Int) == 95) = false := by simp; omega
      by_cases c6 : q = 46
      · subst c6
        obtain rfl : r = true := by simp [hr]
        clear hr
        go_enter Try.func64, Try.ntmps64
        go_wp2_with fail
        go_ret
        exact ⟨rfl, rfl⟩
      · have d6 : ((q : Int) == 46) = false := by simp; omega
        obtain rfl : r = false := by simp [hr]; omega
        clear hr c6
        go_enter Try.func64, Try.ntmps64
        go_wp2_with fail
        go_ret
        exact ⟨rfl, rfl⟩

theorem notB (b : Bool) (w : World) : (Op.unary .not (.bool b)).run Try.prog w = .ok (.bool (!b)) w := by cases b <;> rfl
set_option maxRecDepth 100000 in
set_option maxHeartbeats 2000000 in
theorem nameP_any (w : World) (s : ByteArray) (hs : s.size ≤ 9223372036854775807) :
    Calls Try.prog 37 #[.string s] w fun e' w' => e' = .returned (.bool (Vf.okN s)) ∧ w = w' := by
  have hl : s.data.toList.length = s.size := by simp
  have hI : Hid (∀ (w : World) (c : UInt8), Calls Try.prog 64 #[.int .u8 (c.toNat : Int)] w fun e' w' => e' = .returned (.bool (Vf.okC c)) ∧ w = w') := inNameP_any
  have hN : Hid (Vf.okN s = (decide (1 ≤ s.size ∧ s.size ≤ 40) && s.data.toList.all Vf.okC)) := by show _ = _; rfl
  go_enter Try.func37, Try.ntmps37
  go_wp2_with fail
  go_loopg [6] s.size (fun g i wx => ∃ k : Nat, w = wx ∧ k ≤ s.size ∧ g = s.size - k ∧ i = .int .i64 (k : Int) ∧ Hid (s.data.toList.all Vf.okC = (s.data.toList.drop k).all Vf.okC))
  case atStart => exact ⟨0, rfl, Nat.zero_le _, rfl, rfl, by show _ = _; rw [List.drop_zero]⟩
  case round =>
    obtain ⟨k, rfl, hk, rfl, rfl, hf⟩ := hrel
    by_cases hkn : k < s.size
    · have j1 : (k : Int) < (s.size : Int) := by omega
      have kl : k < s.data.toList.length := by rw [hl]; exact hkn
      have hd : (s.data.toList.drop k).all Vf.okC = (Vf.okC s[k] && (s.data.toList.drop (k + 1)).all Vf.okC) := by
        rw [List.drop_eq_getElem_cons kl, List.all_cons]
        rfl
      have hIk := Lib.hid (hI.out w s[k])
      by_cases hc : Vf.okC s[k] = true
      · have hst : Hid (s.data.toList.all Vf.okC = (s.data.toList.drop (k + 1)).all Vf.okC) := by show _ = _; rw [hf.out, hd, hc, Bool.true_and]
        rw [hc] at hIk
        clear hf hd hc
        go_wp2_with (go_at_call 64; refine hIk.out.mono ?_; rintro e1 w1 ⟨rfl, rfl⟩)
        go_roundg (s.size - (k + 1))
        case rel => exact ⟨k + 1, rfl, by omega, rfl, by go_num, hst⟩
        case measure => omega
      · have hc' : Vf.okC s[k] = false := by simpa using hc
        have hfin : Hid (Vf.okN s = false) := by
          show _ = _
          rw [hN.out, hf.out, hd, hc']
          simp
        rw [hc'] at hIk
        clear hf hd hc hc'
        go_wp2_with (go_at_call 64; refine hIk.out.mono ?_; rintro e1 w1 ⟨rfl, rfl⟩)
        go_ret
        exact ⟨by rw [hfin.out]; rfl, rfl⟩
    · have hfin : Hid (Vf.okN s = decide (1 ≤ s.size ∧ s.size ≤ 40)) := by
        show _ = _
        rw [hN.out, hf.out, List.drop_of_length_le (by rw [hl]; omega)]
        simp
      clear hf
      by_cases h1 : 1 ≤ s.size
      · have d1 : (1 : Int) ≤ (s.size : Int) := by omega
        by_cases h2 : s.size ≤ 40
        · have d2 : (s.size : Int) ≤ 40 := by omega
          have hfin2 : Hid (Vf.okN s = true) := by show _ = _; rw [hfin.out]; simp [h1, h2]
          clear hfin
          go_wp2_with fail
          go_ret
          exact ⟨by rw [hfin2.out]; rfl, rfl⟩
        · have d2 : ¬ (s.size : Int) ≤ 40 := by omega
          have hfin2 : Hid (Vf.okN s = false) := by show _ = _; rw [hfin.out]; simp [h2]
          clear hfin
          go_wp2_with fail
          go_ret
          exact ⟨by rw [hfin2.out]; rfl, rfl⟩
      · have d1 : ¬ (1 : Int) ≤ (s.size : Int) := by omega
        have hfin2 : Hid (Vf.okN s = false) := by show _ = _; rw [hfin.out]; simp; omega
        clear hfin
        go_wp2_with fail
        go_ret
        exact ⟨by rw [hfin2.out]; rfl, rfl⟩

set_option maxRecDepth 100000 in
set_option maxHeartbeats 1000000 in
theorem mixP_any (w : World) (a k : Nat) :
    Calls Try.prog 69 #[.int .u64 a, .int .u64 k] w fun e' w' => e' = .returned (.int .u64 (Vf.mix a k)) ∧ w = w' := by
  obtain ⟨p, hp⟩ : ∃ p, p = Vf.m64 (k * 11400714819323198485) := ⟨_, rfl⟩
  have e1 : IntKind.u64.wrap ((k : Int) * 11400714819323198485) = (p : Int) := by rw [hp]; exact u64_mul k 11400714819323198485
  obtain ⟨x, hx⟩ : ∃ x, x = Vf.m64 (a + p) := ⟨_, rfl⟩
  have e2 : IntKind.u64.wrap ((a : Int) + (p : Int)) = (x : Int) := by rw [hx, IntKind.wrap_u64]; unfold Vf.m64; simp
  have hx64 : x < 18446744073709551616 := by rw [hx]; exact Nat.mod_lt _ (by omega)
  have e3 : bits .xor .u64 (x : Int) (((x / 1073741824 : Nat)) : Int) = ((x ^^^ x / 1073741824 : Nat) : Int) := u64_xor_nat _ _ hx64 (by omega)
  obtain ⟨y, hy⟩ : ∃ y, y = Vf.m64 ((x ^^^ x / 1073741824) * 13787848793156543929) := ⟨_, rfl⟩
  have e4 : IntKind.u64.wrap (((x ^^^ x / 1073741824 : Nat) : Int) * 13787848793156543929) = (y : Int) := by rw [hy]; exact u64_mul _ 13787848793156543929
  have hy64 : y < 18446744073709551616 := by rw [hy]; exact Nat.mod_lt _ (by omega)
  have e5 : bits .xor .u64 (y : Int) (((y / 134217728 : Nat)) : Int) = ((y ^^^ y / 134217728 : Nat) : Int) := u64_xor_nat _ _ hy64 (by omega)
  obtain ⟨z, hz⟩ : ∃ z, z = Vf.m64 ((y ^^^ y / 134217728) * 10723151780598845931) := ⟨_, rfl⟩
  have e6 : IntKind.u64.wrap (((y ^^^ y / 134217728 : Nat) : Int) * 10723151780598845931) = (z : Int) := by rw [hz]; exact u64_mul _ 10723151780598845931
  have hz64 : z < 18446744073709551616 := by rw [hz]; exact Nat.mod_lt _ (by omega)
  have e7 : bits .xor .u64 (z : Int) (((z / 2147483648 : Nat)) : Int) = ((z ^^^ z / 2147483648 : Nat) : Int) := u64_xor_nat _ _ hz64 (by omega)
  have hm : Hid (Vf.mix a k = z ^^^ z / 2147483648) := by
    show _ = _
    unfold Vf.mix
    simp only [← hp, ← hx, ← hy, ← hz]
  clear hp hx hy hz
  have r1 : (x : Int) / 1073741824 = ((x / 1073741824 : Nat) : Int) := by omega
  have r2 : (y : Int) / 134217728 = ((y / 134217728 : Nat) : Int) := by omega
  have r3 : (z : Int) / 2147483648 = ((z / 2147483648 : Nat) : Int) := by omega
  generalize x ^^^ x / 1073741824 = xx at *
  generalize y ^^^ y / 134217728 = yy at *
  generalize z ^^^ z / 2147483648 = zz at *
  generalize x / 1073741824 = xd at *
  generalize y / 134217728 = yd at *
  generalize z / 2147483648 = zd at *
  go_enter Try.func69, Try.ntmps69
  go_wp2_with fail
  go_ret
  exact ⟨by rw [hm.out]; rfl, rfl⟩

def isFaultB (e : Int) : Bool := decide (e = 14) || decide (e = 13) || decide (e = 15)
set_option maxHeartbeats 1000000 in
theorem isFaultP_any (w : World) (e : Int) :
    Calls Try.prog 54 #[.int .i64 e] w fun e' w' => e' = .returned (.bool (isFaultB e)) ∧ w = w' := by
  obtain ⟨r, hr⟩ : ∃ r, r = isFaultB e := ⟨_, rfl⟩
  rw [← hr]
  have H := Lib.hid hr
  clear hr
  by_cases h1 : e = 14
  · subst h1
    obtain rfl : r = true := by rw [H.out]; rfl
    clear H
    go_enter Try.func54, Try.ntmps54
    go_wp2_with fail
    go_ret
    exact ⟨rfl, rfl⟩
  · have e1 : (e == 14) = false := by simpa using h1
    by_cases h2 : e = 13
    · subst h2
      obtain rfl : r = true := by rw [H.out]; rfl
      clear H
      go_enter Try.func54, Try.ntmps54
      go_wp2_with fail
      go_ret
      exact ⟨rfl, rfl⟩
    · have e2 : (e == 13) = false := by simpa using h2
      by_cases h3 : e = 15
      · subst h3
        obtain rfl : r = true := by rw [H.out]; rfl
        clear H
        go_enter Try.func54, Try.ntmps54
        go_wp2_with fail
        go_ret
        exact ⟨rfl, rfl⟩
      · have e3 : (e == 15) = false := by simpa using h3
        obtain rfl : r = false := by rw [H.out]; unfold isFaultB; simp [h1, h2, h3]
        clear h1 h2 h3 H
        go_enter Try.func54, Try.ntmps54
        go_wp2_with fail
        go_ret
        exact ⟨rfl, rfl⟩
end Go.Proofs.Ytdohenbicepicaa
