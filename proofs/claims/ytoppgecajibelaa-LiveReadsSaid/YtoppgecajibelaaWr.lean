/-
  What the writers of numbers answer, call by call: the document's bytes.
-/
import Derived.Test.YtoppgecajibelaaText
namespace Go.Proofs.Ytoppgecajibelaa
open Go.RowKit

theorem be_succ (f k m : Nat) : Pl.be f (k + 1) m = UInt8.ofNat ((m / 256 ^ k % 256) ^^^ f) :: Pl.be f k m := rfl

theorem xb_eq (a f : Nat) (ha : a < 256) (hf : f < 256) : bits .xor .u8 (a : Int) (f : Int) = ((UInt8.ofNat (a ^^^ f)).toNat : Int) := by
  rw [u8_xor_nat a f ha hf]
  have : a ^^^ f < 256 := Nat.xor_lt_two_pow (n := 8) (by simpa using ha) (by simpa using hf)
  rw [UInt8.toNat_ofNat']
  omega

/-- A slice of the call's own comes back with these bytes; nothing below B has turned. -/
def OwnPost (B : Nat) (w0 : World) (l : List UInt8) (e : Ending) (w' : World) : Prop := ∃ v', e = .returned v' ∧ OwnB w' B v' l ∧ Below B w0 w'

theorem i64_notM (a : Nat) (ha : a < 9223372036854775808) : bits .xor .i64 (-1) (-1 - (a : Int)) = (a : Int) := by
  show IntKind.i64.wrap ((BitVec.ofInt 64 (-1) ^^^ BitVec.ofInt 64 (-1 - (a : Int))).toNat : Int) = _
  have h1 : BitVec.ofInt 64 (-1) = BitVec.allOnes 64 := by decide
  have h2 : BitVec.ofInt 64 (-1 - (a : Int)) = ~~~ (BitVec.ofInt 64 (a : Int)) := by
    apply BitVec.eq_of_toNat_eq
    rw [BitVec.toNat_not, BitVec.toNat_ofInt, ofInt_u64 a (by omega)]
    simp
    omega
  rw [h1, h2, BitVec.allOnes_xor, BitVec.not_not, ofInt_u64 a (by omega)]
  simp [IntKind.wrap, IntKind.bits, IntKind.signed]
  omega

set_option maxRecDepth 100000 in
set_option maxHeartbeats 1000000 in
theorem appendNum_near (w w0 : World) (B : Nat) (v : Value) (l : List UInt8) (a : Nat) (c : UInt8) (hown : OwnB w B v l) (hbel : Below B w0 w) (hB : B ≤ w.heap.size) (hl : l.length + 9 ≤ 140737488355328) (h1 : a < 112)
    (hx : bits .xor .u8 (128 + (a : Int)) 0 = (c.toNat : Int)) :
    Calls Try.prog 30 #[v, .int .i64 a] w (OwnPost B w0 (l ++ [c])) := by
  obtain ⟨i0, hi, hz0, hz1, hz2⟩ := info_parts Try.infoB
  have hown' : w.ownsRow B 5 1 v l.length (bytesV l) := hown
  go_enter Try.func30, Try.ntmps30
  go_wp2_with (at_builtin; refine wpList_append_own _ rfl _ _ 47 rfl B 5 i0 (.int .u8 0) 1 1 Try.underlying47 hi hz0 hz1 hz2 rfl (by decide) _ _ _ rfl (hown'.alloc _) ⟨w.heap.size, 0, none⟩ 1 1 [.int .u8 (c.toNat : Int)] rfl rfl ?c1 ?c2 ?c3 ?c4 ?c5 ?_)
  case c1 =>
    intro j u hj
    match j, hj with
    | 0, hj => simp at hj; subst hj; simp [Addr.add]
  case c2 => intro u hu; simp at hu; subst hu; rfl
  case c3 => unfold maxLen; omega
  case c4 => omega
  case c5 => simp; omega
  · intro v' w1 hown1 hgrow _
    have R := own_push hB hown hbel hown1 hgrow
    clear hown1 hgrow hown hown' hbel
    go_wp2
    go_ret
    exact ⟨_, rfl, R.1, R.2⟩
set_option maxRecDepth 100000 in
set_option maxHeartbeats 1000000 in
theorem appendNum_nearM (w w0 : World) (B : Nat) (v : Value) (l : List UInt8) (a : Nat) (c : UInt8) (hown : OwnB w B v l) (hbel : Below B w0 w) (hB : B ≤ w.heap.size) (hl : l.length + 9 ≤ 140737488355328) (h1 : a < 112)
    (hx : bits .xor .u8 (128 + (a : Int)) 255 = (c.toNat : Int)) :
    Calls Try.prog 30 #[v, .int .i64 (-1 - (a : Int))] w (OwnPost B w0 (l ++ [c])) := by
  obtain ⟨i0, hi, hz0, hz1, hz2⟩ := info_parts Try.infoB
  have hown' : w.ownsRow B 5 1 v l.length (bytesV l) := hown
  have hn := i64_notM a (by omega)
  have hsg : IntKind.i64.signed = true := rfl
  go_enter Try.func30, Try.ntmps30
  go_wp2_with (at_builtin; refine wpList_append_own _ rfl _ _ 47 rfl B 5 i0 (.int .u8 0) 1 1 Try.underlying47 hi hz0 hz1 hz2 rfl (by decide) _ _ _ rfl (hown'.alloc _) ⟨w.heap.size, 0, none⟩ 1 1 [.int .u8 (c.toNat : Int)] rfl rfl ?c1 ?c2 ?c3 ?c4 ?c5 ?_)
  case c1 =>
    intro j u hj
    match j, hj with
    | 0, hj => simp at hj; subst hj; simp [Addr.add]
  case c2 => intro u hu; simp at hu; subst hu; rfl
  case c3 => unfold maxLen; omega
  case c4 => omega
  case c5 => simp; omega
  · intro v' w1 hown1 hgrow _
    have R := own_push hB hown hbel hown1 hgrow
    clear hown1 hgrow hown hown' hbel
    go_wp2
    go_ret
    exact ⟨_, rfl, R.1, R.2⟩
theorem byte_at (m p f : Nat) (hf : f < 256) : bits .xor .u8 ((m : Int) / 2 ^ (8 * p) % 256) (f : Int) = ((UInt8.ofNat ((m / 256 ^ p % 256) ^^^ f)).toNat : Int) := by
  have e : (m : Int) / 2 ^ (8 * p) % 256 = ((m / 256 ^ p % 256 : Nat) : Int) := by
    rw [show (2 : Int) ^ (8 * p) = ((256 ^ p : Nat) : Int) from by rw [Int.pow_mul]; simp]
    rfl
  rw [e]
  exact xb_eq _ _ (by omega) hf

set_option maxRecDepth 100000 in
set_option maxHeartbeats 1000000 in
theorem appendNum_far (w w0 : World) (B : Nat) (v : Value) (l : List UInt8) (m k : Nat) (c : UInt8) (hown : OwnB w B v l) (hbel : Below B w0 w) (hB : B ≤ w.heap.size) (hl : l.length + 9 ≤ 140737488355328) (h1 : m ≤ 9223372036854775695) (hw : Pl.wid m = k)
    (hx : bits .xor .u8 (239 + (k : Int)) 0 = (c.toNat : Int)) :
    Calls Try.prog 30 #[v, .int .i64 ((m : Int) + 112)] w (OwnPost B w0 (l ++ c :: Pl.be 0 k m)) := by
  obtain ⟨i0, hi, hz0, hz1, hz2⟩ := info_parts Try.infoB
  have hown' : w.ownsRow B 5 1 v l.length (bytesV l) := hown
  obtain ⟨hk1, hk8⟩ := Pl.wid_le m
  rw [hw] at hk1 hk8
  have HW := Lib.hid hw
  clear hw
  go_enter Try.func30, Try.ntmps30
  go_wp2_with (first | (at_builtin; refine wpList_append_own _ rfl _ _ 47 rfl B 5 i0 (.int .u8 0) 1 1 Try.underlying47 hi hz0 hz1 hz2 rfl (by decide) _ _ _ rfl (hown'.alloc _) ⟨w.heap.size, 0, none⟩ 1 1 [.int .u8 (c.toNat : Int)] rfl rfl ?c1 ?c2 ?c3 ?c4 ?c5 ?_) | (go_at_call 35; refine (width_any m _ (by omega)).mono ?_; rintro e w' ⟨rfl, rfl⟩; rw [HW.out]))
  case c1 =>
    intro j u hj
    match j, hj with
    | 0, hj => simp at hj; subst hj; simp [Addr.add]
  case c2 => intro u hu; simp at hu; subst hu; rfl
  case c3 => unfold maxLen; omega
  case c4 => omega
  case c5 => simp; omega
  · intro v' w1 hown1 hgrow _
    have R := own_push hB hown hbel hown1 hgrow
    have hB1 : B ≤ w1.heap.size := by have := hgrow.size; simp at this; omega
    clear hown1 hgrow hown hown' hbel
    obtain ⟨R1, R2⟩ := R
    have hlen : (l ++ [c]).length = l.length + 1 := by simp
    go_wp2
    go_loopw [0, 8] (fun u i wr => ∃ (j : Nat) (x : Int) (acc : List UInt8), Hid (x = (j : Int) - 1) ∧ j ≤ k ∧ i = .int .i64 x ∧ Hid (acc ++ Pl.be 0 j m = l ++ c :: Pl.be 0 k m) ∧ acc.length + j ≤ l.length + 1 + k ∧ OwnB wr B u acc ∧ Below B w0 wr ∧ B ≤ wr.heap.size) (fun _ i _ => (intOf i + 1).toNat)
    case atStart => exact ⟨k, _, l ++ [c], rfl, Nat.le_refl _, rfl, by show _ = _; simp, by omega, R1, R2, hB1⟩
    case round =>
      clear R1 R2 hB1 hx hlen
      obtain ⟨j, x, acc, hxj, hj, rfl, hacc, hal, hown, hbel, hBr⟩ := hrel
      have hown' : wr.ownsRow B 5 1 u0 acc.length (bytesV acc) := hown
      rcases j with _ | p
      · obtain rfl : x = -1 := hxj.out
        clear hxj
        go_wp2
        go_ret
        have hacc' := hacc.out
        simp only [Pl.be, List.append_nil] at hacc'
        rw [← hacc']
        exact ⟨_, rfl, hown, hbel⟩
      · obtain rfl : x = (p : Int) := by have := hxj.out; omega
        clear hxj
        have hy : bits .xor .u8 ((m : Int) / 2 ^ (8 * p) % 256) 0 = ((UInt8.ofNat ((m / 256 ^ p % 256) ^^^ 0)).toNat : Int) := byte_at m p 0 (by omega)
        have hnx : Hid ((acc ++ [UInt8.ofNat ((m / 256 ^ p % 256) ^^^ 0)]) ++ Pl.be 0 p m = l ++ c :: Pl.be 0 k m) := by
          have h := hacc.out
          rw [be_succ] at h
          show _ = _
          rw [← h]
          simp
        clear hacc
        generalize UInt8.ofNat ((m / 256 ^ p % 256) ^^^ 0) = d at *
        go_wp2_with (at_builtin; refine wpList_append_own _ rfl _ _ 47 rfl B 5 i0 (.int .u8 0) 1 1 Try.underlying47 hi hz0 hz1 hz2 rfl (by decide) _ _ _ rfl (hown'.alloc _) ⟨wr.heap.size, 0, none⟩ 1 1 [.int .u8 (d.toNat : Int)] rfl rfl ?d1 ?d2 ?d3 ?d4 ?d5 ?_)
        case d1 =>
          intro j u hj
          match j, hj with
          | 0, hj => simp at hj; subst hj; simp [Addr.add]
        case d2 => intro u hu; simp at hu; subst hu; rfl
        case d3 => unfold maxLen; omega
        case d4 => omega
        case d5 => simp; omega
        · intro v2 w2 hown2 hgrow2 _
          have R := own_push hBr hown hbel hown2 hgrow2
          have hB2 : B ≤ w2.heap.size := by have := hgrow2.size; simp at this; omega
          clear hown2 hgrow2 hown hown' hbel hy
          go_wp2
          go_roundw
          case rel => exact ⟨p, _, _, rfl, by omega, by go_num, hnx, by simp; omega, R.1, R.2, hB2⟩
          case measure => simp [intOf]
set_option maxRecDepth 100000 in
set_option maxHeartbeats 1000000 in
theorem appendNum_farM (w w0 : World) (B : Nat) (v : Value) (l : List UInt8) (m k : Nat) (c : UInt8) (hown : OwnB w B v l) (hbel : Below B w0 w) (hB : B ≤ w.heap.size) (hl : l.length + 9 ≤ 140737488355328) (h1 : m ≤ 9223372036854775695) (hw : Pl.wid m = k)
    (hx : bits .xor .u8 (239 + (k : Int)) 255 = (c.toNat : Int)) :
    Calls Try.prog 30 #[v, .int .i64 (-1 - ((m : Int) + 112))] w (OwnPost B w0 (l ++ c :: Pl.be 255 k m)) := by
  obtain ⟨i0, hi, hz0, hz1, hz2⟩ := info_parts Try.infoB
  have hown' : w.ownsRow B 5 1 v l.length (bytesV l) := hown
  obtain ⟨hk1, hk8⟩ := Pl.wid_le m
  rw [hw] at hk1 hk8
  have HW := Lib.hid hw
  clear hw
  have hn := i64_notM (m + 112) (by omega)
  rw [show ((m + 112 : Nat) : Int) = (m : Int) + 112 from by omega] at hn
  have hsg : IntKind.i64.signed = true := rfl
  go_enter Try.func30, Try.ntmps30
  go_wp2_with (first | (at_builtin; refine wpList_append_own _ rfl _ _ 47 rfl B 5 i0 (.int .u8 0) 1 1 Try.underlying47 hi hz0 hz1 hz2 rfl (by decide) _ _ _ rfl (hown'.alloc _) ⟨w.heap.size, 0, none⟩ 1 1 [.int .u8 (c.toNat : Int)] rfl rfl ?c1 ?c2 ?c3 ?c4 ?c5 ?_) | (go_at_call 35; refine (width_any m _ (by omega)).mono ?_; rintro e w' ⟨rfl, rfl⟩; rw [HW.out]))
  case c1 =>
    intro j u hj
    match j, hj with
    | 0, hj => simp at hj; subst hj; simp [Addr.add]
  case c2 => intro u hu; simp at hu; subst hu; rfl
  case c3 => unfold maxLen; omega
  case c4 => omega
  case c5 => simp; omega
  · intro v' w1 hown1 hgrow _
    have R := own_push hB hown hbel hown1 hgrow
    have hB1 : B ≤ w1.heap.size := by have := hgrow.size; simp at this; omega
    clear hown1 hgrow hown hown' hbel
    obtain ⟨R1, R2⟩ := R
    have hlen : (l ++ [c]).length = l.length + 1 := by simp
    go_wp2
    go_loopw [0, 8] (fun u i wr => ∃ (j : Nat) (x : Int) (acc : List UInt8), Hid (x = (j : Int) - 1) ∧ j ≤ k ∧ i = .int .i64 x ∧ Hid (acc ++ Pl.be 255 j m = l ++ c :: Pl.be 255 k m) ∧ acc.length + j ≤ l.length + 1 + k ∧ OwnB wr B u acc ∧ Below B w0 wr ∧ B ≤ wr.heap.size) (fun _ i _ => (intOf i + 1).toNat)
    case atStart => exact ⟨k, _, l ++ [c], rfl, Nat.le_refl _, rfl, by show _ = _; simp, by omega, R1, R2, hB1⟩
    case round =>
      clear R1 R2 hB1 hx hlen
      obtain ⟨j, x, acc, hxj, hj, rfl, hacc, hal, hown, hbel, hBr⟩ := hrel
      have hown' : wr.ownsRow B 5 1 u0 acc.length (bytesV acc) := hown
      rcases j with _ | p
      · obtain rfl : x = -1 := hxj.out
        clear hxj
        go_wp2
        go_ret
        have hacc' := hacc.out
        simp only [Pl.be, List.append_nil] at hacc'
        rw [← hacc']
        exact ⟨_, rfl, hown, hbel⟩
      · obtain rfl : x = (p : Int) := by have := hxj.out; omega
        clear hxj
        have hy : bits .xor .u8 ((m : Int) / 2 ^ (8 * p) % 256) 255 = ((UInt8.ofNat ((m / 256 ^ p % 256) ^^^ 255)).toNat : Int) := byte_at m p 255 (by omega)
        have hnx : Hid ((acc ++ [UInt8.ofNat ((m / 256 ^ p % 256) ^^^ 255)]) ++ Pl.be 255 p m = l ++ c :: Pl.be 255 k m) := by
          have h := hacc.out
          rw [be_succ] at h
          show _ = _
          rw [← h]
          simp
        clear hacc
        generalize UInt8.ofNat ((m / 256 ^ p % 256) ^^^ 255) = d at *
        go_wp2_with (at_builtin; refine wpList_append_own _ rfl _ _ 47 rfl B 5 i0 (.int .u8 0) 1 1 Try.underlying47 hi hz0 hz1 hz2 rfl (by decide) _ _ _ rfl (hown'.alloc _) ⟨wr.heap.size, 0, none⟩ 1 1 [.int .u8 (d.toNat : Int)] rfl rfl ?d1 ?d2 ?d3 ?d4 ?d5 ?_)
        case d1 =>
          intro j u hj
          match j, hj with
          | 0, hj => simp at hj; subst hj; simp [Addr.add]
        case d2 => intro u hu; simp at hu; subst hu; rfl
        case d3 => unfold maxLen; omega
        case d4 => omega
        case d5 => simp; omega
        · intro v2 w2 hown2 hgrow2 _
          have R := own_push hBr hown hbel hown2 hgrow2
          have hB2 : B ≤ w2.heap.size := by have := hgrow2.size; simp at this; omega
          clear hown2 hgrow2 hown hown' hbel hy
          go_wp2
          go_roundw
          case rel => exact ⟨p, _, _, rfl, by omega, by go_num, hnx, by simp; omega, R.1, R.2, hB2⟩
          case measure => simp [intOf]

/-- What appendNum does: the document's bytes of the number stand behind the others. -/
theorem appendNum_any (w w0 : World) (B : Nat) (v : Value) (l : List UInt8) (n : Int) (hown : OwnB w B v l) (hbel : Below B w0 w) (hB : B ≤ w.heap.size) (hl : l.length + 9 ≤ 140737488355328) (h0 : -9223372036854775808 ≤ n) (h1 : n ≤ 9223372036854775807) :
    Calls Try.prog 30 #[v, .int .i64 n] w (OwnPost B w0 (l ++ Pl.numB n)) := by
  by_cases hn : n < 0
  · obtain ⟨a, rfl⟩ : ∃ a : Nat, n = -1 - (a : Int) := ⟨(-1 - n).toNat, by omega⟩
    have hm : Pl.mag (-1 - (a : Int)) = a := by unfold Pl.mag; rw [if_pos hn]; omega
    have hs : Pl.sgn (-1 - (a : Int)) = 255 := by unfold Pl.sgn; rw [if_pos hn]
    unfold Pl.numB
    rw [hm, hs]
    by_cases ha : a < 112
    · rw [if_pos ha]
      refine appendNum_nearM w w0 B v l a _ hown hbel hB hl ha ?_
      have := xb_eq (128 + a) 255 (by omega) (by omega)
      rw [← this]
      rfl
    · rw [if_neg ha]
      obtain ⟨m, rfl⟩ : ∃ m, a = m + 112 := ⟨a - 112, by omega⟩
      rw [Nat.add_sub_cancel]
      have hw8 := Pl.wid_le m
      have := appendNum_farM w w0 B v l m (Pl.wid m) (UInt8.ofNat ((239 + Pl.wid m) ^^^ 255)) hown hbel hB hl (by omega) rfl (by
        have := xb_eq (239 + Pl.wid m) 255 (by omega) (by omega)
        rw [← this]
        rfl)
      exact this
  · obtain ⟨a, rfl⟩ := Int.eq_ofNat_of_zero_le (show 0 ≤ n by omega)
    have hm : Pl.mag (a : Int) = a := by unfold Pl.mag; rw [if_neg hn]; omega
    have hs : Pl.sgn (a : Int) = 0 := by unfold Pl.sgn; rw [if_neg hn]
    unfold Pl.numB
    rw [hm, hs]
    by_cases ha : a < 112
    · rw [if_pos ha]
      refine appendNum_near w w0 B v l a _ hown hbel hB hl ha ?_
      have := xb_eq (128 + a) 0 (by omega) (by omega)
      rw [← this]
      rfl
    · rw [if_neg ha]
      obtain ⟨m, rfl⟩ : ∃ m, a = m + 112 := ⟨a - 112, by omega⟩
      rw [Nat.add_sub_cancel]
      have hw8 := Pl.wid_le m
      have := appendNum_far w w0 B v l m (Pl.wid m) (UInt8.ofNat ((239 + Pl.wid m) ^^^ 0)) hown hbel hB hl (by omega) rfl (by
        have := xb_eq (239 + Pl.wid m) 0 (by omega) (by omega)
        rw [← this]
        rfl)
      exact this

theorem numB_length (n : Int) : (Pl.numB n).length ≤ 9 := by
  have hbe : ∀ f k m, (Pl.be f k m).length = k := by
    intro f k m
    induction k with
    | zero => rfl
    | succ k ih => rw [be_succ, List.length_cons, ih]
  unfold Pl.numB
  split
  · simp
  · rw [List.length_cons, hbe]
    have := Pl.wid_le (Pl.mag n - 112)
    omega
theorem numsB_snoc (l : List Int) (k : Nat) (h : k < l.length) : Pl.numsB (l.take (k + 1)) = Pl.numsB (l.take k) ++ Pl.numB l[k] := by
  unfold Pl.numsB
  rw [List.take_succ_eq_append_getElem h, List.flatMap_append]
  simp
theorem numsB_length (l : List Int) : (Pl.numsB l).length ≤ 9 * l.length := by
  unfold Pl.numsB
  induction l with
  | nil => simp
  | cons n r ih =>
    rw [List.flatMap_cons, List.length_append, List.length_cons]
    have := numB_length n
    omega

set_option maxRecDepth 100000 in
set_option maxHeartbeats 1000000 in
/-- What Nums answers: the numbers' bytes, one behind the other. -/
theorem nums_any (w : World) (xs : List Int) (len cap b off : Nat) (hl : len * 9 + 9 ≤ 140737488355328) (hlen : xs.length = len) (hb : b < w.heap.size)
    (hc : ∀ j (h : j < xs.length), w.cell? ⟨b, off + j, none⟩ = some (.int .i64 xs[j])) (hwf : ∀ n ∈ xs, -9223372036854775808 ≤ n ∧ n ≤ 9223372036854775807) :
    Calls Try.prog 23 #[.slice (some ⟨b, off, none⟩) len cap] w fun e' w' => e' = .returned (.string ⟨(Pl.numsB xs).toArray⟩) ∧ Below w.heap.size w w' := by
  obtain ⟨i0, hi, hz0, hz1, hz2⟩ := info_parts Try.infoB
  have HL := Lib.hid hlen
  have hlen' : xs.length ≤ len ∧ len ≤ xs.length := by omega
  clear hlen
  have HW := Lib.hid hwf
  have HC := Lib.hid hc
  clear hwf hc
  go_enter Try.func23, Try.ntmps23
  go_wp2_with (at_make; refine wpList_make_own _ rfl _ _ 47 rfl w.heap.size 5 i0 (.int .u8 0) 1 Try.underlying47 hi hz0 hz1 .i64 .i64 _ len rfl rfl (by omega) (by rw [hz2]; omega) (by unfold maxLen; omega) (Nat.le_refl _) ?_; intro w0 hown0 hgrow0)
  have hB0 : w.heap.size ≤ w0.heap.size := hgrow0.size
  have hbel0 : Below w.heap.size w w0 := (Below.refl _ _).grown hgrow0 (Nat.le_refl _) (fun j hj => by cases hj)
  clear hgrow0
  go_loopw [3, 11] (fun u i wr => ∃ k : Nat, k ≤ len ∧ i = .int .i64 k ∧ OwnB wr w.heap.size u (Pl.numsB (xs.take k)) ∧ Below w.heap.size w wr ∧ w.heap.size ≤ wr.heap.size) (fun _ i _ => len - (intOf i).toNat)
  case atStart => exact ⟨0, Nat.zero_le _, rfl, hown0, hbel0, hB0⟩
  case round =>
    clear hown0 hbel0 hB0
    obtain ⟨k, hk, rfl, hown, hbel, hB⟩ := hrel
    by_cases hlt : k < len
    · have hkx : k < xs.length := by omega
      have hcell : wr.cell? ⟨b, off + k, none⟩ = some (.int .i64 xs[k]) := (hbel.cell (p := ⟨b, off + k, none⟩) hb).trans (HC.out k hkx)
      have hst : Hid (Pl.numsB (xs.take (k + 1)) = Pl.numsB (xs.take k) ++ Pl.numB xs[k]) := numsB_snoc xs k hkx
      have hln := numsB_length (xs.take k)
      have hln2 : (xs.take k).length ≤ k := List.length_take_le _ _
      have hw := HW.out xs[k] (List.getElem_mem hkx)
      have hcall := appendNum_any wr w w.heap.size u3 _ xs[k] hown hbel hB (by omega) hw.1 hw.2
      have HCALL := Lib.hid hcall
      clear hcall
      obtain ⟨hw1, hw2⟩ := hw
      go_wp2_with (go_at_call 30; refine HCALL.out.mono ?_; rintro e w1 ⟨v1, rfl, hown1, hbel1⟩)
      have hB1 : w.heap.size ≤ w1.heap.size := hbel1.size
      go_roundw
      case rel => exact ⟨k + 1, by omega, by go_num, by rw [hst.out]; exact hown1, hbel1, hB1⟩
      case measure => simp [intOf]; omega
    · obtain rfl : k = len := by omega
      have hcv := own_conv hown
      have hall : Hid (Pl.numsB (xs.take k) = Pl.numsB xs) := by
        show _ = _
        rw [List.take_of_length_le hlen'.1]
      go_wp2_with fail
      go_ret
      rw [hall.out]
      exact ⟨rfl, hbel⟩

set_option maxRecDepth 100000 in
set_option maxHeartbeats 1000000 in
/-- Of no numbers: no bytes. -/
theorem nums_none (w : World) (a : Option Addr) (cap : Nat) :
    Calls Try.prog 23 #[.slice a 0 cap] w fun e' w' => e' = .returned (.string ⟨#[]⟩) ∧ Below w.heap.size w w' := by
  obtain ⟨i0, hi, hz0, hz1, hz2⟩ := info_parts Try.infoB
  go_enter Try.func23, Try.ntmps23
  go_wp2_with (at_make; refine wpList_make_own _ rfl _ _ 47 rfl w.heap.size 5 i0 (.int .u8 0) 1 Try.underlying47 hi hz0 hz1 .i64 .i64 _ 0 rfl rfl (by omega) (by rw [hz2]; omega) (by unfold maxLen; omega) (Nat.le_refl _) ?_; intro w0 hown0 hgrow0)
  have hbel0 : Below w.heap.size w w0 := (Below.refl _ _).grown hgrow0 (Nat.le_refl _) (fun j hj => by cases hj)
  have hown0' : OwnB w0 w.heap.size (.slice (some ⟨w.heap.size, 0, none⟩) 0 0) [] := hown0
  have hcv := own_conv hown0'
  clear hgrow0 hown0
  refine wp_loop_rounds 1 ?_
  rw [rounds_succ]
  go_wp2
  go_ret
  exact ⟨rfl, hbel0⟩
end Go.Proofs.Ytoppgecajibelaa
