/-
  What the document's own answers for numbers are, call by call.
-/
import Derived.Test.YtoppgecajibelaaWr
namespace Go.Proofs.Ytoppgecajibelaa
open Go.RowKit

/-- The bytes of a number by division. -/
theorem be_split (f k m : Nat) : Pl.be f (k + 1) m = Pl.be f k (m / 256) ++ [UInt8.ofNat ((m % 256) ^^^ f)] := by
  induction k with
  | zero => simp [Pl.be]
  | succ k ih =>
    rw [be_succ, ih, be_succ f k (m / 256), List.cons_append]
    congr 3
    rw [Nat.div_div_eq_div_mul, Nat.pow_succ, Nat.mul_comm]
theorem wid_step (m : Nat) (h : 256 ≤ m) (h2 : m < 18446744073709551616) : Pl.wid m = Pl.wid (m / 256) + 1 := by
  unfold Pl.wid
  repeat' split
  all_goals omega
theorem wid_one (m : Nat) (h : m < 256) : Pl.wid m = 1 := by
  unfold Pl.wid
  rw [if_pos h]

/-- A string comes back; nothing that was there has turned. -/
def StrPost (B : Nat) (w0 : World) (l : List UInt8) (e : Ending) (w' : World) : Prop := e = .returned (.string ⟨l.toArray⟩) ∧ Below B w0 w'

theorem one_conv (w : World) (c : UInt8) : (convert 47 9 (.slice (some ⟨w.heap.size, 0, none⟩) 1 1)).run Try.prog (w.alloc (.cells #[.int .u8 (c.toNat : Int)] 5)) = .ok (.string ⟨#[c]⟩) (w.alloc (.cells #[.int .u8 (c.toNat : Int)] 5)) := by
  have := run_convert_bytes_back (P := Try.prog) (w.alloc (.cells #[.int .u8 (c.toNat : Int)] 5)) 47 9 5 ⟨w.heap.size, 0, none⟩ 1 [c] Try.underlying47 Try.underlying5 Try.underlying9 (by
    intro j hj
    match j, hj with
    | 0, _ => rw [Addr.add_lit, World.cell?_alloc_at _ _ _ _ rfl]; rfl)
  exact this

theorem ret_str {s1 s2 : ByteArray} (h : s1 = s2) : Ending.returned (.string s1) = Ending.returned (.string s2) := by rw [h]
theorem append_mk (l : List UInt8) (c : UInt8) : (⟨l.toArray⟩ : ByteArray) ++ ⟨#[c]⟩ = ⟨(l ++ [c]).toArray⟩ := by
  apply mk_of
  rw [ByteArray.data_append]
  simp
theorem be_length (f k m : Nat) : (Pl.be f k m).length = k := by
  induction k with
  | zero => rfl
  | succ k ih => rw [be_succ, List.length_cons, ih]
theorem eq_0 (m : Nat) : (m : Int) % 256 = ((UInt8.ofNat ((m % 256) ^^^ 0)).toNat : Int) := by
  rw [Nat.xor_zero, UInt8.toNat_ofNat']
  omega
theorem not_byte : ∀ x : Fin 256, x.val ^^^ 255 = 255 - x.val := by decide +kernel
theorem eq_255 (m : Nat) : 255 - (m : Int) % 256 = ((UInt8.ofNat ((m % 256) ^^^ 255)).toNat : Int) := by
  have := not_byte ⟨m % 256, by omega⟩
  simp only at this
  rw [this, UInt8.toNat_ofNat']
  omega

set_option maxRecDepth 100000 in
set_option maxHeartbeats 1000000 in
theorem places_one (m : Nat) (c : UInt8) (w : World) (h : m < 256) (hq : (m : Int) % 256 = (c.toNat : Int)) :
    Calls Try.prog 31 #[.int .u64 m, .int .i64 0] w (StrPost w.heap.size w [c]) := by
  have hcv := one_conv w c
  go_enter Try.func31, Try.ntmps31
  go_wp2
  go_ret
  exact ⟨rfl, (Below.refl _ _).alloc (Nat.le_refl _) _⟩
set_option maxRecDepth 100000 in
set_option maxHeartbeats 1000000 in
theorem places_more (m : Nat) (c : UInt8) (l : List UInt8) (w : World) (h : 256 ≤ m) (h2 : m < 18446744073709551616) (hq : (m : Int) % 256 = (c.toNat : Int)) (hl : l.length ≤ 8)
    (hrec : Hid (∀ w, Calls Try.prog 31 #[.int .u64 (m / 256 : Nat), .int .i64 0] w (StrPost w.heap.size w l))) :
    Calls Try.prog 31 #[.int .u64 m, .int .i64 0] w (StrPost w.heap.size w (l ++ [c])) := by
  have hcv := one_conv w c
  have hlen : (⟨l.toArray⟩ : ByteArray).size ≤ 8 := by simpa [ByteArray.size] using hl
  go_enter Try.func31, Try.ntmps31
  go_wp2_with fail
  rw [show (m : Int) / 256 = ((m / 256 : Nat) : Int) from by omega]
  refine (hrec.out _).mono ?_
  rintro e w1 ⟨rfl, hb⟩
  have HB : Hid (Below w.heap.size w w1) := ((Below.refl _ _).alloc (Nat.le_refl _) _).trans (hb.mono (by simp))
  clear hb
  go_wp2_with fail
  go_ret
  exact ⟨ret_str (append_mk l c), HB.out⟩
/-- What places answers: the number's bytes. -/
theorem places_any : ∀ (k m : Nat), m < 256 ^ (k + 1) → k ≤ 7 → ∀ w, Calls Try.prog 31 #[.int .u64 m, .int .i64 0] w (StrPost w.heap.size w (Pl.be 0 (Pl.wid m) m)) := by
  intro k
  induction k with
  | zero =>
    intro m hm hk w
    have hm' : m < 256 := by simpa using hm
    rw [wid_one m hm']
    have := places_one m (UInt8.ofNat ((m % 256) ^^^ 0)) w hm' (eq_0 m)
    simpa [Pl.be] using this
  | succ k ih =>
    intro m hm hk w
    by_cases hs : m < 256
    · exact ih m (Nat.lt_of_lt_of_le hs (Nat.le_trans (by simp) (Nat.pow_le_pow_right (n := 256) (by omega) (show 1 ≤ k + 1 by omega)))) (by omega) w
    · have hm64 : m < 18446744073709551616 := Nat.lt_of_lt_of_le hm (Nat.le_trans (Nat.pow_le_pow_right (n := 256) (by omega) (show k + 1 + 1 ≤ 8 by omega)) (by simp))
      rw [wid_step m (by omega) hm64, be_split]
      refine places_more m _ _ w (by omega) hm64 (eq_0 m) ?_ ?_
      · rw [be_length]
        have := Pl.wid_le (m / 256)
        omega
      · intro w
        refine ih (m / 256) ?_ (by omega) w
        rw [Nat.pow_succ] at hm
        omega
set_option maxRecDepth 100000 in
set_option maxHeartbeats 1000000 in
theorem places_oneM (m : Nat) (c : UInt8) (w : World) (h : m < 256) (hq : 255 - (m : Int) % 256 = (c.toNat : Int)) :
    Calls Try.prog 31 #[.int .u64 m, .int .i64 255] w (StrPost w.heap.size w [c]) := by
  have hcv := one_conv w c
  go_enter Try.func31, Try.ntmps31
  go_wp2
  go_ret
  exact ⟨rfl, (Below.refl _ _).alloc (Nat.le_refl _) _⟩
set_option maxRecDepth 100000 in
set_option maxHeartbeats 1000000 in
theorem places_moreM (m : Nat) (c : UInt8) (l : List UInt8) (w : World) (h : 256 ≤ m) (h2 : m < 18446744073709551616) (hq : 255 - (m : Int) % 256 = (c.toNat : Int)) (hl : l.length ≤ 8)
    (hrec : Hid (∀ w, Calls Try.prog 31 #[.int .u64 (m / 256 : Nat), .int .i64 255] w (StrPost w.heap.size w l))) :
    Calls Try.prog 31 #[.int .u64 m, .int .i64 255] w (StrPost w.heap.size w (l ++ [c])) := by
  have hcv := one_conv w c
  have hlen : (⟨l.toArray⟩ : ByteArray).size ≤ 8 := by simpa [ByteArray.size] using hl
  go_enter Try.func31, Try.ntmps31
  go_wp2_with fail
  rw [show (m : Int) / 256 = ((m / 256 : Nat) : Int) from by omega]
  refine (hrec.out _).mono ?_
  rintro e w1 ⟨rfl, hb⟩
  have HB : Hid (Below w.heap.size w w1) := ((Below.refl _ _).alloc (Nat.le_refl _) _).trans (hb.mono (by simp))
  clear hb
  go_wp2_with fail
  go_ret
  exact ⟨ret_str (append_mk l c), HB.out⟩
/-- What places answers: the number's bytes. -/
theorem places_anyM : ∀ (k m : Nat), m < 256 ^ (k + 1) → k ≤ 7 → ∀ w, Calls Try.prog 31 #[.int .u64 m, .int .i64 255] w (StrPost w.heap.size w (Pl.be 255 (Pl.wid m) m)) := by
  intro k
  induction k with
  | zero =>
    intro m hm hk w
    have hm' : m < 256 := by simpa using hm
    rw [wid_one m hm']
    have := places_oneM m (UInt8.ofNat ((m % 256) ^^^ 255)) w hm' (eq_255 m)
    simpa [Pl.be] using this
  | succ k ih =>
    intro m hm hk w
    by_cases hs : m < 256
    · exact ih m (Nat.lt_of_lt_of_le hs (Nat.le_trans (by simp) (Nat.pow_le_pow_right (n := 256) (by omega) (show 1 ≤ k + 1 by omega)))) (by omega) w
    · have hm64 : m < 18446744073709551616 := Nat.lt_of_lt_of_le hm (Nat.le_trans (Nat.pow_le_pow_right (n := 256) (by omega) (show k + 1 + 1 ≤ 8 by omega)) (by simp))
      rw [wid_step m (by omega) hm64, be_split]
      refine places_moreM m _ _ w (by omega) hm64 (eq_255 m) ?_ ?_
      · rw [be_length]
        have := Pl.wid_le (m / 256)
        omega
      · intro w
        refine ih (m / 256) ?_ (by omega) w
        rw [Nat.pow_succ] at hm
        omega

theorem cons_mk (l : List UInt8) (c : UInt8) : (⟨#[c]⟩ : ByteArray) ++ ⟨l.toArray⟩ = ⟨(c :: l).toArray⟩ := by
  apply mk_of
  rw [ByteArray.data_append]
  simp

set_option maxRecDepth 100000 in
set_option maxHeartbeats 1000000 in
theorem numR_near (n : Int) (c : UInt8) (w : World) (h1 : -112 ≤ n) (h2 : n ≤ 111) (hq : 128 + n = (c.toNat : Int)) :
    Calls Try.prog 24 #[.int .i64 n] w (StrPost w.heap.size w [c]) := by
  have hcv := one_conv w c
  go_enter Try.func24, Try.ntmps24
  go_wp2
  go_ret
  exact ⟨rfl, (Below.refl _ _).alloc (Nat.le_refl _) _⟩
set_option maxRecDepth 100000 in
set_option maxHeartbeats 1000000 in
theorem numR_far (m k : Nat) (c : UInt8) (w : World) (h1 : m ≤ 9223372036854775695) (hk : Hid ((Pl.be 0 (Pl.wid m) m).length = k)) (hk8 : k ≤ 8) (hq : 239 + (k : Int) = (c.toNat : Int)) :
    Calls Try.prog 24 #[.int .i64 ((m : Int) + 112)] w (StrPost w.heap.size w (c :: Pl.be 0 (Pl.wid m) m)) := by
  have hp := places_any 7 m (Nat.lt_of_le_of_lt h1 (by simp)) (Nat.le_refl _) w
  generalize Pl.be 0 (Pl.wid m) m = l at *
  have HP := Lib.hid hp
  clear hp
  have hs : (⟨l.toArray⟩ : ByteArray).size = k := by simpa [ByteArray.size] using hk.out
  go_enter Try.func24, Try.ntmps24
  go_wp2_with fail
  refine HP.out.mono ?_
  rintro e w1 ⟨rfl, hb⟩
  have HB := Lib.hid hb
  clear hb
  have hcv := one_conv w1 c
  go_wp2_with fail
  go_ret
  exact ⟨ret_str (cons_mk l c), HB.out.alloc HB.out.size _⟩
set_option maxRecDepth 100000 in
set_option maxHeartbeats 1000000 in
theorem numR_farM (m k : Nat) (c : UInt8) (w : World) (h1 : m ≤ 9223372036854775695) (hk : Hid ((Pl.be 255 (Pl.wid m) m).length = k)) (hk8 : k ≤ 8) (hq : 16 - (k : Int) = (c.toNat : Int)) :
    Calls Try.prog 24 #[.int .i64 (-113 - (m : Int))] w (StrPost w.heap.size w (c :: Pl.be 255 (Pl.wid m) m)) := by
  have hp := places_anyM 7 m (Nat.lt_of_le_of_lt h1 (by simp)) (Nat.le_refl _) w
  generalize Pl.be 255 (Pl.wid m) m = l at *
  have HP := Lib.hid hp
  clear hp
  have hs : (⟨l.toArray⟩ : ByteArray).size = k := by simpa [ByteArray.size] using hk.out
  go_enter Try.func24, Try.ntmps24
  go_wp2_with fail
  rw [show -(-113 - (m : Int) + 113) = (m : Int) from by omega]
  refine HP.out.mono ?_
  rintro e w1 ⟨rfl, hb⟩
  have HB := Lib.hid hb
  clear hb
  have hcv := one_conv w1 c
  go_wp2_with fail
  go_ret
  exact ⟨ret_str (cons_mk l c), HB.out.alloc HB.out.size _⟩

/-- What the document's own number answers: the number's bytes. -/
theorem numR_any (n : Int) (w : World) (h0 : -9223372036854775808 ≤ n) (h1 : n ≤ 9223372036854775807) :
    Calls Try.prog 24 #[.int .i64 n] w (StrPost w.heap.size w (Pl.numB n)) := by
  by_cases hn : n < 0
  · obtain ⟨a, rfl⟩ : ∃ a : Nat, n = -1 - (a : Int) := ⟨(-1 - n).toNat, by omega⟩
    have hm : Pl.mag (-1 - (a : Int)) = a := by unfold Pl.mag; rw [if_pos hn]; omega
    have hs : Pl.sgn (-1 - (a : Int)) = 255 := by unfold Pl.sgn; rw [if_pos hn]
    unfold Pl.numB
    rw [hm, hs]
    by_cases ha : a < 112
    · rw [if_pos ha]
      refine numR_near _ _ w (by omega) (by omega) ?_
      have := not_byte ⟨128 + a, by omega⟩
      simp only at this
      rw [this, UInt8.toNat_ofNat']
      omega
    · rw [if_neg ha]
      obtain ⟨m, rfl⟩ : ∃ m, a = m + 112 := ⟨a - 112, by omega⟩
      rw [Nat.add_sub_cancel, show -1 - ((m + 112 : Nat) : Int) = -113 - (m : Int) from by omega]
      have hw8 := Pl.wid_le m
      refine numR_farM m (Pl.wid m) _ w (by omega) (be_length _ _ _) (by omega) ?_
      have := not_byte ⟨239 + Pl.wid m, by omega⟩
      simp only at this
      rw [this, UInt8.toNat_ofNat']
      omega
  · obtain ⟨a, rfl⟩ := Int.eq_ofNat_of_zero_le (show 0 ≤ n by omega)
    have hm : Pl.mag (a : Int) = a := by unfold Pl.mag; rw [if_neg hn]; omega
    have hs : Pl.sgn (a : Int) = 0 := by unfold Pl.sgn; rw [if_neg hn]
    unfold Pl.numB
    rw [hm, hs]
    by_cases ha : a < 112
    · rw [if_pos ha]
      refine numR_near _ _ w (by omega) (by omega) ?_
      rw [Nat.xor_zero, UInt8.toNat_ofNat']
      omega
    · rw [if_neg ha]
      obtain ⟨m, rfl⟩ : ∃ m, a = m + 112 := ⟨a - 112, by omega⟩
      rw [Nat.add_sub_cancel, show ((m + 112 : Nat) : Int) = (m : Int) + 112 from by omega]
      have hw8 := Pl.wid_le m
      refine numR_far m (Pl.wid m) _ w (by omega) (be_length _ _ _) (by omega) ?_
      rw [Nat.xor_zero, UInt8.toNat_ofNat']
      omega
end Go.Proofs.Ytoppgecajibelaa
