/-
  The document's own answers on single characters: words, folding, their bytes, and which one bytes would be.
-/
import Derived.Test.YtedloedfbegbkaaDoorUe
namespace Go.Proofs.YtedloedfbegbkaaDoor
open Go.RowKit

set_option maxRecDepth 100000 in
set_option maxHeartbeats 1000000 in
theorem among_any (w : World) (c : Int) (v : Value) (xs : List Int) (m : Nat) (hv : IntS w v xs) (hm : xs.length = 2 * m) (_hl : m ≤ 100) :
    Calls Tryd.prog 32 #[.int .i64 c, v] w fun e w' => e = .returned (.bool (Ut.among c xs)) ∧ w = w' := by
  obtain ⟨a, cap, rfl, _, _, hv⟩ := hv
  have HV := Lib.hid hv
  clear hv
  obtain ⟨n, hn⟩ : ∃ n, n = xs.length := ⟨_, rfl⟩
  have HN := Lib.hid hn
  rw [← hn] at hm ⊢
  have HM := Lib.hid hm
  clear hn hm
  go_enter Tryd.func32, Tryd.ntmps32
  go_wp2_with fail
  go_loopg [5] n (fun g i wx => ∃ (k j : Nat), wx = w ∧ Hid (j = 2 * k) ∧ j ≤ n ∧ g = n - j ∧ i = .int .i64 j ∧ Hid (Ut.among c (xs.drop j) = Ut.among c xs))
  case atStart => exact ⟨0, 0, rfl, rfl, Nat.zero_le _, rfl, rfl, rfl⟩
  case round =>
    obtain ⟨k, j, rfl, hj, hk, rfl, rfl, hA⟩ := hrel
    by_cases hkn : j < n
    · have i1 : (j : Int) < (n : Int) := by omega
      have i2 : (j : Int) + 1 < (n : Int) := by have := hj.out; have := HM.out; omega
      have kx : j < xs.length := by rw [← HN.out]; exact hkn
      have ky : j + 1 < xs.length := by rw [← HN.out]; omega
      obtain ⟨g, o, rfl, hg, hcu⟩ := HV.out (by omega)
      have c1 := hcu j kx
      have c2 := hcu (j + 1) ky
      have hd : xs.drop j = xs[j] :: xs[j + 1] :: xs.drop (j + 2) := by
        rw [List.drop_eq_getElem_cons kx, List.drop_eq_getElem_cons ky]
      have hst : Ut.among c (xs.drop j) = (decide (xs[j] ≤ c ∧ c ≤ xs[j + 1]) || Ut.among c (xs.drop (j + 2))) := by rw [hd]; rfl
      rw [hA.out] at hst
      have HST := Lib.hid hst
      clear hcu hd hst hA
      generalize xs[j] = x at *
      generalize xs[j + 1] = y at *
      by_cases h1 : x ≤ c
      · by_cases h2 : c ≤ y
        · have hf : Hid (Ut.among c xs = true) := by show _ = _; rw [HST.out, decide_eq_true ⟨h1, h2⟩]; rfl
          clear HST
          go_wp2_with fail
          go_ret
          exact ⟨by rw [hf.out]; rfl, rfl⟩
        · have hf : Hid (Ut.among c (xs.drop (j + 2)) = Ut.among c xs) := by show _ = _; rw [HST.out, decide_eq_false (fun h => h2 h.2)]; rfl
          clear HST
          go_wp2_with fail
          go_roundg (n - (j + 2))
          case rel => exact ⟨k + 1, j + 2, rfl, by show _ = _; have := hj.out; omega, by omega, rfl, by go_num, hf⟩
          case measure => omega
      · have hf : Hid (Ut.among c (xs.drop (j + 2)) = Ut.among c xs) := by show _ = _; rw [HST.out, decide_eq_false (fun h => h1 h.1)]; rfl
        clear HST
        go_wp2_with fail
        go_roundg (n - (j + 2))
        case rel => exact ⟨k + 1, j + 2, rfl, by show _ = _; have := hj.out; omega, by omega, rfl, by go_num, hf⟩
        case measure => omega
    · have hf : Hid (Ut.among c xs = false) := by
        show _ = _
        rw [← hA.out, List.drop_of_length_le (by rw [← HN.out]; omega)]
        rfl
      clear hA
      go_wp2_with fail
      go_ret
      exact ⟨by rw [hf.out]; rfl, rfl⟩

set_option maxRecDepth 100000 in
set_option maxHeartbeats 1000000 in
theorem letterR_any (c : Int) (w : World) :
    Calls Tryd.prog 20 #[.int .i64 c] w fun e w' => e = .returned (.bool (Ut.letter c)) ∧ Below w.heap.size w w' := by
  have hL := ints_lit w [97, 122, 65, 90, 48, 57, 192, 214, 216, 246, 248, 591, 880, 893, 895, 1153, 1155, 1327, 19968, 40959] (by simp)
  have hA := Lib.hid (among_any _ c _ _ 10 hL rfl (by omega))
  have hB : Hid (Below w.heap.size w (w.alloc (.cells (intsV [97, 122, 65, 90, 48, 57, 192, 214, 216, 246, 248, 591, 880, 893, 895, 1153, 1155, 1327, 19968, 40959]).toArray 3))) := (Below.refl _ _).alloc (Nat.le_refl _) _
  clear hL
  go_enter Tryd.func20, Tryd.ntmps20
  go_wp2_with fail
  refine hA.out.mono ?_
  rintro e w1 ⟨rfl, rfl⟩
  go_wp2_with fail
  go_ret
  exact ⟨rfl, hB.out⟩

set_option maxRecDepth 100000 in
set_option maxHeartbeats 1000000 in
theorem foldR_any (c : Int) (w : World) :
    Calls Tryd.prog 22 #[.int .i64 c] w fun e w' => e = .returned (.int .i64 (Ut.fold c)) ∧ Below w.heap.size w w' := by
  have hL := ints_lit w [65, 90, 192, 214, 216, 222, 913, 929, 931, 937, 1040, 1071] (by simp)
  have hA := Lib.hid (among_any _ c _ _ 6 hL rfl (by omega))
  have hB : Hid (Below w.heap.size w (w.alloc (.cells (intsV [65, 90, 192, 214, 216, 222, 913, 929, 931, 937, 1040, 1071]).toArray 3))) := (Below.refl _ _).alloc (Nat.le_refl _) _
  have hf : Hid (Ut.fold c = if Ut.among c [65, 90, 192, 214, 216, 222, 913, 929, 931, 937, 1040, 1071] = true then c + 32 else if 1024 ≤ c ∧ c ≤ 1039 then c + 80 else if c = 962 then 963 else c) := rfl
  have hb : Ut.among c [65, 90, 192, 214, 216, 222, 913, 929, 931, 937, 1040, 1071] = true → c ≤ 1071 ∧ 65 ≤ c := by
    intro h
    simp only [Ut.among, Bool.or_eq_true, decide_eq_true_iff] at h
    rcases h with h | h | h | h | h | h | h
    all_goals first | (cases h; done) | omega
  clear hL
  generalize Ut.among c [65, 90, 192, 214, 216, 222, 913, 929, 931, 937, 1040, 1071] = b at *
  go_enter Tryd.func22, Tryd.ntmps22
  go_wp2_with fail
  refine hA.out.mono ?_
  rintro e w1 ⟨rfl, rfl⟩
  cases b
  · clear hb
    by_cases h1 : 1024 ≤ c
    · by_cases h2 : c ≤ 1039
      · have hr : Hid (Ut.fold c = c + 80) := by show _ = _; rw [hf.out, if_neg Bool.false_ne_true, if_pos ⟨h1, h2⟩]
        clear hf
        go_wp2_with fail
        go_ret
        exact ⟨by rw [hr.out]; rfl, hB.out⟩
      · have hr : Hid (Ut.fold c = c) := by show _ = _; rw [hf.out, if_neg Bool.false_ne_true, if_neg (fun h => h2 h.2), if_neg (by omega)]
        have n9 : (c == 962) = false := by simp; omega
        clear hf
        go_wp2_with fail
        go_ret
        exact ⟨by rw [hr.out]; rfl, hB.out⟩
    · by_cases h9 : c = 962
      · subst h9
        have hr : Hid (Ut.fold 962 = 963) := by show _ = _; decide +kernel
        clear hf
        go_wp2_with fail
        go_ret
        exact ⟨by rw [hr.out]; rfl, hB.out⟩
      · have hr : Hid (Ut.fold c = c) := by show _ = _; rw [hf.out, if_neg Bool.false_ne_true, if_neg (fun h => h1 h.1), if_neg h9]
        have n9 : (c == 962) = false := by simp; omega
        clear hf
        go_wp2_with fail
        go_ret
        exact ⟨by rw [hr.out]; rfl, hB.out⟩
  · have hb2 := hb rfl
    have hr : Hid (Ut.fold c = c + 32) := by show _ = _; rw [hf.out, if_pos rfl]
    clear hf hb
    go_wp2_with fail
    go_ret
    exact ⟨by rw [hr.out]; rfl, hB.out⟩

/-- 'string([]byte{..})' of a character's bytes. -/
theorem rune_conv (c : Int) (cs : Array Value) (k : Nat) (h : Lib.runeCells c = cs.toList) (hk : cs.size = k) (w : World) :
    (convert 50 9 (.slice (some ⟨w.heap.size, 0, none⟩) k k)).run Tryd.prog (w.alloc (.cells cs 5)) = .ok (.string ⟨(Lib.encodeRune c).toArray⟩) (w.alloc (.cells cs 5)) := by
  have hl : (Lib.encodeRune c).length = k := by
    rw [← hk, ← Array.length_toList, ← h, ← Ut.bytes_rune, bytesV_length]
  subst hl
  refine run_convert_bytes_back (P := Tryd.prog) _ 50 9 5 ⟨w.heap.size, 0, none⟩ _ (Lib.encodeRune c) Tryd.underlying50 Tryd.underlying5 Tryd.underlying9 fun j hj => ?_
  rw [Addr.add_lit, Nat.zero_add, World.cell?_alloc_at _ _ _ _ rfl, ← Array.getElem?_toList, ← h, ← Ut.bytes_rune]
  simp [bytesV, hj]
theorem tdiv_pos (c d : Int) (h : 0 ≤ c) : c.tdiv d = c / d := Int.tdiv_eq_ediv_of_nonneg h
theorem tmod_pos (c d : Int) (h : 0 ≤ c) : c.tmod d = c % d := Int.tmod_eq_emod_of_nonneg h

set_option maxRecDepth 100000 in
set_option maxHeartbeats 2000000 in
theorem one_any (c : Int) (h : Ut.whole c = true) (w : World) :
    Calls Tryd.prog 31 #[.int .i64 c] w fun e w' => e = .returned (.string ⟨(Lib.encodeRune c).toArray⟩) ∧ Below w.heap.size w w' := by
  have hcv := fun cs k h1 h2 => rune_conv c cs k h1 h2 w
  have HB : ∀ o, Hid (Below w.heap.size w (w.alloc o)) := fun o => (Below.refl _ _).alloc (Nat.le_refl _) _
  unfold Lib.runeCells at hcv
  generalize Lib.encodeRune c = S at *
  rcases Ut.run_cases c h with ⟨h1, h2, e⟩ | ⟨h1, h2, e⟩ | ⟨h1, e⟩ | ⟨h1, h2, e⟩
  · rw [e] at hcv
    have hcv1 := hcv #[.int .u8 c] 1 rfl rfl
    clear hcv e h
    go_enter Tryd.func31, Tryd.ntmps31
    go_wp2_with fail
    go_ret
    exact ⟨rfl, (HB _).out⟩
  · rw [e] at hcv
    have hcv1 := hcv #[.int .u8 (192 + c / 64), .int .u8 (128 + c % 64)] 2 rfl rfl
    have d1 := tdiv_pos c 64 (by omega)
    have m1 := tmod_pos c 64 (by omega)
    have b1 : 0 ≤ c / 64 ∧ c / 64 < 32 := by omega
    have b2 : 0 ≤ c % 64 ∧ c % 64 < 64 := by omega
    generalize c / 64 = q1 at *
    generalize c % 64 = r1 at *
    clear hcv e h
    go_enter Tryd.func31, Tryd.ntmps31
    go_wp2_with fail
    go_ret
    exact ⟨rfl, (HB _).out⟩
  · rw [e] at hcv
    have hcv1 := hcv #[.int .u8 (224 + c / 4096), .int .u8 (128 + c / 64 % 64), .int .u8 (128 + c % 64)] 3 rfl rfl
    have d1 := tdiv_pos c 64 (by omega)
    have d2 := tdiv_pos c 4096 (by omega)
    have m1 := tmod_pos c 64 (by omega)
    have m2 := tmod_pos (c / 64) 64 (by omega)
    have b1 : 0 ≤ c / 64 ∧ c / 64 < 1024 := by omega
    have b2 : 0 ≤ c % 64 ∧ c % 64 < 64 := by omega
    have b3 : 0 ≤ c / 4096 ∧ c / 4096 < 16 := by omega
    have b4 : 0 ≤ c / 64 % 64 ∧ c / 64 % 64 < 64 := by omega
    have n1 : ¬ c < 2048 := by omega
    have n2 : c < 65536 := by omega
    generalize c / 64 % 64 = r2 at *
    generalize c / 64 = q1 at *
    generalize c / 4096 = q2 at *
    generalize c % 64 = r1 at *
    clear hcv e h
    go_enter Tryd.func31, Tryd.ntmps31
    go_wp2_with fail
    go_ret
    exact ⟨rfl, (HB _).out⟩
  · rw [e] at hcv
    have hcv1 := hcv #[.int .u8 (240 + c / 262144), .int .u8 (128 + c / 4096 % 64), .int .u8 (128 + c / 64 % 64), .int .u8 (128 + c % 64)] 4 rfl rfl
    have d1 := tdiv_pos c 64 (by omega)
    have d2 := tdiv_pos c 4096 (by omega)
    have d3 := tdiv_pos c 262144 (by omega)
    have m1 := tmod_pos c 64 (by omega)
    have m2 := tmod_pos (c / 64) 64 (by omega)
    have m3 := tmod_pos (c / 4096) 64 (by omega)
    have b1 : 0 ≤ c / 64 ∧ c / 64 < 100000 := by omega
    have b2 : 0 ≤ c % 64 ∧ c % 64 < 64 := by omega
    have b3 : 0 ≤ c / 4096 ∧ c / 4096 < 1000 := by omega
    have b4 : 0 ≤ c / 64 % 64 ∧ c / 64 % 64 < 64 := by omega
    have b5 : 0 ≤ c / 262144 ∧ c / 262144 < 8 := by omega
    have b6 : 0 ≤ c / 4096 % 64 ∧ c / 4096 % 64 < 64 := by omega
    generalize c / 64 % 64 = r2 at *
    generalize c / 4096 % 64 = r3 at *
    generalize c / 64 = q1 at *
    generalize c / 4096 = q2 at *
    generalize c / 262144 = q3 at *
    generalize c % 64 = r1 at *
    clear hcv e h
    go_enter Tryd.func31, Tryd.ntmps31
    go_wp2_with fail
    go_ret
    exact ⟨rfl, (HB _).out⟩
end Go.Proofs.YtedloedfbegbkaaDoor
