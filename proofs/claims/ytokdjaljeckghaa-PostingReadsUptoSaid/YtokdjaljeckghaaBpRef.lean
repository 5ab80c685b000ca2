/-
  What the document's own width and Block answer.
-/
import Derived.Test.YtokdjaljeckghaaBp
import Derived.Test.YtokdjaljeckghaaRef
import Derived.Test.YtokdjaljeckghaaText
import Derived.Deep.LoopGhost
import Derived.Deep.OwnRows
namespace Go.Proofs.Ytokdjaljeckghaa
open Go.RowKit

theorem len_of (n j : Nat) (hn : n < 2 ^ j) (hj : j < 64) (h : j = 0 ∨ 2 ^ (j - 1) ≤ n) : Lib.bitLen n = j := by
  have h1 := (Bp.len_iff n j hj).2 hn
  rcases h with rfl | h
  · omega
  · have h2 := Bp.len_iff n (j - 1) (by omega)
    have h3 : ¬ Lib.bitLen n ≤ j - 1 := fun h' => by have := h2.1 h'; omega
    omega

set_option maxRecDepth 100000 in
set_option maxHeartbeats 1000000 in
theorem widthR_any (n : Nat) (hn : n < 9223372036854775808) (w : World) :
    Calls Try.prog 64 #[.int .i64 n] w fun e' w' => e' = .returned (.int .i64 (Lib.bitLen n)) ∧ w = w' := by
  go_enter Try.func64, Try.ntmps64
  go_wp2_with fail
  go_loopg [0, 3] n (fun g x i wx => ∃ j X : Nat, wx = w ∧ X = g ∧ x = .int .i64 X ∧ i = .int .i64 j ∧ X ≤ n ∧ j < 64 ∧ Hid (X = n / 2 ^ j) ∧ Hid (j = 0 ∨ 2 ^ (j - 1) ≤ n))
  case atStart => exact ⟨0, n, rfl, rfl, rfl, rfl, Nat.le_refl _, by omega, by show _ = _; simp, .inl rfl⟩
  case round =>
    obtain ⟨j, X, rfl, rfl, rfl, rfl, hXn, hj, hX, hlow⟩ := hrel
    by_cases h0 : 0 < X
    · have i1 : (0 : Int) < (X : Int) := by omega
      have d1 : (X : Int).tdiv 2 = ((X / 2 : Nat) : Int) := by rw [Int.tdiv_eq_ediv_of_nonneg (by omega)]; omega
      have d2 : (X : Int) / 2 = ((X / 2 : Nat) : Int) := by omega
      have hp : 2 ^ j ≤ n := by
        have h := hX.out
        by_cases h' : n < 2 ^ j
        · rw [Nat.div_eq_of_lt h'] at h; omega
        · omega
      have hj2 : j < 63 := by
        by_cases h' : j < 63
        · exact h'
        · have : 2 ^ 63 ≤ 2 ^ j := Nat.pow_le_pow_right (by omega) (by omega)
          simp only [Nat.reducePow] at this
          omega
      have hX2 : Hid (X / 2 = n / 2 ^ (j + 1)) := by
        show _ = _
        rw [hX.out, Nat.pow_succ, Nat.div_div_eq_div_mul]
      have hl2 : Hid (j + 1 = 0 ∨ 2 ^ (j + 1 - 1) ≤ n) := .inr hp
      have hlt : X / 2 < X := by omega
      clear hX hlow hp
      generalize X / 2 = Y at *
      go_wp2_with fail
      go_roundg Y
      case rel => exact ⟨j + 1, Y, rfl, rfl, rfl, by go_num, by omega, by omega, hX2, hl2⟩
      case measure => omega
    · have hX0 : X = 0 := by omega
      have hlen : Hid (Lib.bitLen n = j) := by
        have h := hX.out
        rw [hX0] at h
        refine len_of n j ?_ hj hlow.out
        by_cases h' : n < 2 ^ j
        · exact h'
        · have : 0 < n / 2 ^ j := Nat.div_pos (by omega) (Nat.two_pow_pos j)
          omega
      clear hX hlow h0
      subst hX0
      go_wp2_with fail
      go_ret
      exact ⟨by rw [hlen.out]; rfl, rfl⟩

theorem Try.infoI : (Try.prog.info? 3).map (fun i => (i.zero, i.size, i.bytes)) = some (some (.int .i64 0), 1, 8) := by kernel_rfl

/-- Numbers as cells. -/
def intsV (l : List Int) : List Value := l.map (fun c => .int .i64 c)
theorem intsV_snoc (l : List Int) (c : Int) : intsV l ++ [.int .i64 c] = intsV (l ++ [c]) := by simp [intsV]
theorem intsV_append (l r : List Int) : intsV l ++ intsV r = intsV (l ++ r) := by simp [intsV]
theorem intsV_length (l : List Int) : (intsV l).length = l.length := by simp [intsV]
/-- The slice v is the call's own, from block B on, and holds these numbers. -/
def OwnI (w : World) (B : Nat) (v : Value) (l : List Int) : Prop := w.ownsRow B 3 1 v l.length (intsV l)
/-- Behind an append of one number. -/
theorem ownI_push {w wr w1 : World} {B : Nat} {v v' : Value} {l : List Int} {c : Int} {o : Obj} (hB : B ≤ wr.heap.size) (h : OwnI wr B v l) (hb : Below B w wr)
    (h1 : w1.ownsRow B 3 1 v' (l.length + 1) (intsV l ++ [.int .i64 c])) (hg : (wr.alloc o).grownBy w1 v.ownBlock) :
    OwnI w1 B v' (l ++ [c]) ∧ Below B w w1 := by
  have hown : wr.ownsRow B 3 1 v l.length (intsV l) := h
  refine ⟨?_, (hb.alloc hB o).grown hg (by simp; omega) (fun j hj => (hown.lt j hj).1)⟩
  unfold OwnI
  rw [intsV_snoc] at h1
  simpa using h1
/-- An own slice, its cells told one by one. -/
theorem ownI_cells {w : World} {B : Nat} {v : Value} {l : List Int} (h : OwnI w B v l) : ∃ a cap, v = .slice a l.length cap ∧ (0 < l.length → ∃ g, a = some ⟨g, 0, none⟩ ∧ g < w.heap.size ∧ ∀ j (hj : j < l.length), w.cell? ⟨g, j, none⟩ = some (.int .i64 l[j])) := by
  have hown : w.ownsRow B 3 1 v l.length (intsV l) := h
  rcases h.2 with ⟨rfl, h0⟩ | ⟨g, cap, cur, rfl, hg, hh, hnc, hcp, hcs, htake⟩
  · exact ⟨none, 0, by rw [h0], fun h => by omega⟩
  · refine ⟨_, _, rfl, fun h => ⟨g, rfl, (hown.lt g rfl).2, fun j hj => ?_⟩⟩
    rw [hown.cellAt j (by omega)]
    simp [intsV, hj]

/-- The bits of a number, the lowest first, as numbers. -/
def bitsOf (V m : Nat) : List Int := (List.range m).map (fun j => ((V / 2 ^ j % 2 : Nat) : Int))
theorem bitsOf_length (V m : Nat) : (bitsOf V m).length = m := by simp [bitsOf]
theorem bitsOf_snoc (V m : Nat) : bitsOf V (m + 1) = bitsOf V m ++ [((V / 2 ^ m % 2 : Nat) : Int)] := by simp [bitsOf, List.range_succ]
theorem bitsOf_get (V m j : Nat) (h : j < (bitsOf V m).length) : (bitsOf V m)[j] = ((V / 2 ^ j % 2 : Nat) : Int) := by simp [bitsOf]
theorem bits_cells {w : World} {B V M : Nat} {v : Value} (h : OwnI w B v (bitsOf V M)) : ∃ a cap, v = .slice a M cap ∧ (0 < M → ∃ g, a = some ⟨g, 0, none⟩ ∧ g < w.heap.size ∧ ∀ j, j < M → w.cell? ⟨g, j, none⟩ = some (.int .i64 ((V / 2 ^ j % 2 : Nat) : Int))) := by
  obtain ⟨a, cap, hv, hc⟩ := ownI_cells h
  have hl := bitsOf_length V M
  refine ⟨a, cap, by rw [hv, hl], fun h0 => ?_⟩
  obtain ⟨g, h1, h2, h3⟩ := hc (by omega)
  refine ⟨g, h1, h2, fun j hj => ?_⟩
  rw [h3 j (by omega), bitsOf_get]
theorem mod_step (Y c : Nat) : Y % 2 ^ (c + 1) = Y % 2 ^ c + 2 ^ c * (Y / 2 ^ c % 2) := Nat.mod_pow_succ
theorem pk_bit (W : Nat) (l : List Nat) (h : ∀ x ∈ l, x < 2 ^ W) (i k : Nat) (hi : i < l.length) (hk : k < W) : Bp.pk W l / 2 ^ (W * i + k) % 2 = l[i] / 2 ^ k % 2 := by
  have hg := Bp.unpk_get W l.length (Bp.pk W l) i (by rw [Bp.unpk_length]; exact hi)
  have e : (Bp.unpk W l.length (Bp.pk W l))[i]'(by rw [Bp.unpk_length]; exact hi) = l[i] := by simp only [Bp.unpk_pk W l h]
  rw [e] at hg
  rw [hg, Nat.pow_add, ← Nat.div_div_eq_div_mul]
  generalize Bp.pk W l / 2 ^ (W * i) = Y
  have h1 : (Y % 2 ^ W).testBit k = Y.testBit k := by rw [Nat.testBit_mod_two_pow]; simp [hk]
  rw [Nat.testBit_eq_decide_div_mod_eq, Nat.testBit_eq_decide_div_mod_eq] at h1
  have h2 := decide_eq_decide.1 h1
  omega
theorem wd_take (l : List Nat) (k : Nat) (h : k < l.length) : Bp.wd (l.take (k + 1)) = Nat.max (Bp.wd (l.take k)) (Lib.bitLen l[k]) := by
  rw [List.take_succ_eq_append_getElem h, Bp.wd_snoc]

set_option maxRecDepth 100000 in
set_option maxHeartbeats 4000000 in
theorem blockR3_any (w : World) (b off len cap : Nat) (l : List Nat) (hlen : l.length = len) (hn : len ≤ 128) (hb : b < w.heap.size)
    (hc : ∀ j (h : j < l.length), w.cell? ⟨b, off + j, none⟩ = some (.int .i64 (l[j] : Int))) (hlt : ∀ x ∈ l, x < 9223372036854775808) :
    Calls Try.prog 46 #[.slice (some ⟨b, off, none⟩) len cap] w (StrPost w.heap.size w (Bp.blkB l)) := by
  obtain ⟨i0, hi, hz0, hz1, hz2⟩ := info_parts Try.infoI
  obtain ⟨ib, hib, hbz0, hbz1, hbz2⟩ := info_parts Try.infoB
  have HC := Lib.hid hc
  have HL := Lib.hid hlt
  have HE := Lib.hid hlen
  clear hc hlt hlen
  go_enter Try.func46, Try.ntmps46
  go_wp2_with fail
  -- the width
  go_loopg [3, 4] len (fun g x i wx => ∃ k W : Nat, w = wx ∧ k ≤ len ∧ g = len - k ∧ i = .int .i64 k ∧ x = .int .i64 W ∧ Hid (W = Bp.wd (l.take k)))
  case atStart => exact ⟨0, 0, rfl, Nat.zero_le _, rfl, rfl, rfl, rfl⟩
  case round =>
    obtain ⟨k, W, rfl, hk, rfl, rfl, rfl, hW⟩ := hrel
    by_cases hkl : k < len
    · have i1 : (k : Int) < (len : Int) := by omega
      have hx : k < l.length := by rw [HE.out]; exact hkl
      have hcell := HC.out k hx
      have hst := Lib.hid (wd_take l k hx)
      have hxl := HL.out l[k] (List.getElem_mem hx)
      generalize l[k] = x at *
      have hw := Lib.hid (widthR_any x hxl w)
      by_cases hbig : W < Lib.bitLen x
      · have hn2 : Hid (Lib.bitLen x = Bp.wd (l.take (k + 1))) := by
          show _ = _
          rw [hst.out, ← hW.out]
          exact (Nat.max_eq_right (by omega)).symm
        have i2 : (W : Int) < (Lib.bitLen x : Int) := by omega
        clear hst hW hbig
        generalize Lib.bitLen x = y at *
        go_wp2_with (go_at_call 64; refine hw.out.mono ?_; rintro e w' ⟨rfl, rfl⟩)
        go_roundg (len - (k + 1))
        case rel => exact ⟨k + 1, y, rfl, by omega, rfl, by go_num, rfl, hn2⟩
        case measure => omega
      · have hn2 : Hid (W = Bp.wd (l.take (k + 1))) := by
          show _ = _
          rw [hst.out, ← hW.out]
          exact (Nat.max_eq_left (by omega)).symm
        have i2 : ¬ (W : Int) < (Lib.bitLen x : Int) := by omega
        clear hst hW hbig
        generalize Lib.bitLen x = y at *
        go_wp2_with (go_at_call 64; refine hw.out.mono ?_; rintro e w' ⟨rfl, rfl⟩)
        go_roundg (len - (k + 1))
        case rel => exact ⟨k + 1, W, rfl, by omega, rfl, by go_num, rfl, hn2⟩
        case measure => omega
    · obtain rfl : k = len := by omega
      have hWl : Hid (W = Bp.wd l) := by
        show _ = _
        rw [hW.out, List.take_of_length_le (by rw [HE.out]; exact Nat.le_refl _)]
      have hW63 : W ≤ 63 := by rw [hWl.out]; exact Bp.wd_lt l HL.out
      have hmem : Hid (∀ x ∈ l, x < 2 ^ W) := by show ∀ x ∈ l, x < 2 ^ W; rw [hWl.out]; exact Bp.wd_mem l HL.out
      obtain ⟨V, hV⟩ : ∃ V, V = Bp.pk W l := ⟨_, rfl⟩
      have HV := Lib.hid hV
      clear hW hV hk hkl
      go_wp2_with fail
      -- the bits
      go_loopg [5, 6] k (fun g v i wx => ∃ j : Nat, j ≤ k ∧ g = k - j ∧ i = .int .i64 j ∧ OwnI wx w.heap.size v (bitsOf V (W * j)) ∧ Below w.heap.size w wx)
      case atStart => exact ⟨0, Nat.zero_le _, rfl, rfl, World.ownsRow_nil _ _ _ _, Below.refl _ _⟩
      case round =>
        obtain ⟨j, hj, rfl, rfl, hown, hbel⟩ := hrel
        by_cases hjk : j < k
        · have i1 : (j : Int) < (k : Int) := by omega
          have hx : j < l.length := by rw [HE.out]; exact hjk
          have hcell : wr.cell? ⟨b, off + j, none⟩ = some (.int .i64 (l[j] : Int)) := (hbel.cell (p := ⟨b, off + j, none⟩) hb).trans (HC.out j hx)
          have hxl := HL.out l[j] (List.getElem_mem hx)
          have hbit : Hid (∀ q, q < W → Bp.pk W l / 2 ^ (W * j + q) % 2 = l[j] / 2 ^ q % 2) := fun q hq => pk_bit W l hmem.out j q hx hq
          generalize l[j] = x at *
          have HOW := Lib.hid hown
          have HBE := Lib.hid hbel
          clear hown hbel
          go_wp2_with fail
          go_loopg [5, 7, 8] W (fun g v y q wx => ∃ (m X : Nat), m ≤ W ∧ g = W - m ∧ q = .int .i64 m ∧ y = .int .i64 X ∧ X < 9223372036854775808 ∧ Hid (X = x / 2 ^ m) ∧ OwnI wx w.heap.size v (bitsOf V (W * j + m)) ∧ Below w.heap.size w wx)
          case atStart => exact ⟨0, x, Nat.zero_le _, rfl, rfl, rfl, hxl, by show _ = _; simp, HOW.out, HBE.out⟩
          case round =>
            clear HOW HBE hcell
            obtain ⟨m, X, hm, rfl, rfl, rfl, hX, hXe, hown, hbel⟩ := hrel
            have hB := hbel.size
            by_cases hmW : m < W
            · have i2 : (m : Int) < (W : Int) := by omega
              have d1 : (X : Int).tdiv 2 = ((X / 2 : Nat) : Int) := by rw [Int.tdiv_eq_ediv_of_nonneg (by omega)]; omega
              have d2 : (X : Int) / 2 = ((X / 2 : Nat) : Int) := by omega
              have d3 : (X : Int).tmod 2 = ((X % 2 : Nat) : Int) := by rw [Int.tmod_eq_emod_of_nonneg (by omega)]; omega
              have d4 : (X : Int) % 2 = ((X % 2 : Nat) : Int) := by omega
              have hX2 : Hid (X / 2 = x / 2 ^ (m + 1)) := by
                show _ = _
                rw [hXe.out, Nat.pow_succ, Nat.div_div_eq_div_mul]
              have hXl : X / 2 < 9223372036854775808 := by omega
              have hst : Hid (bitsOf V (W * j + (m + 1)) = bitsOf V (W * j + m) ++ [((X % 2 : Nat) : Int)]) := by
                show _ = _
                rw [show W * j + (m + 1) = W * j + m + 1 from rfl, bitsOf_snoc, HV.out, hbit.out m hmW, hXe.out]
              have hlen : (bitsOf V (W * j + m)).length ≤ 16384 := by
                rw [bitsOf_length]
                have h1 : W * j ≤ 63 * 128 := Nat.mul_le_mul hW63 (by omega)
                omega
              clear hXe
              generalize X / 2 = X2 at *
              generalize X % 2 = r at *
              generalize bitsOf V (W * j + m) = acc at *
              have hown' : wr.ownsRow w.heap.size 3 1 u5 acc.length (intsV acc) := hown
              go_wp2_with (at_builtin; refine wpList_append_own _ rfl _ _ 38 rfl w.heap.size 3 i0 (.int .i64 0) 1 8 Try.underlying38 hi hz0 hz1 hz2 rfl (by decide) _ _ _ rfl (hown'.alloc _) ⟨wr.heap.size, 0, none⟩ 1 1 [.int .i64 (r : Int)] rfl rfl ?c1 ?c2 ?c3 ?c4 ?c5 ?_)
              case c1 =>
                intro j u hj
                match j, hj with
                | 0, hj => simp at hj; subst hj; simp [Addr.add]
              case c2 => intro u hu; simp at hu; subst hu; rfl
              case c3 => unfold maxLen; omega
              case c4 => omega
              case c5 => simp; omega
              · intro v' w2 hown1 hgrow _
                have R := ownI_push hB hown hbel hown1 hgrow
                rw [← hst.out] at R
                obtain ⟨R1, R2⟩ := R
                have HR1 := Lib.hid R1
                have HR2 := Lib.hid R2
                clear hown1 hgrow hown hown' hbel R1 R2 hst
                go_wp2
                go_roundg (W - (m + 1))
                case rel => exact ⟨m + 1, X2, by omega, rfl, by go_num, rfl, hXl, hX2, HR1.out, HR2.out⟩
                case measure => omega
            · obtain rfl : m = W := by omega
              have HR1 := Lib.hid hown
              have HR2 := Lib.hid hbel
              clear hown hbel
              go_wp2_with fail
              go_roundg (k - (j + 1))
              case rel => exact ⟨j + 1, by omega, rfl, by go_num, by rw [Nat.mul_succ]; exact HR1.out, HR2.out⟩
              case measure => omega
        · obtain rfl : j = k := by omega
          have hVl : V < 2 ^ (W * j) := by
            rw [HV.out, ← HE.out]
            exact Bp.pk_lt W l hmem.out
          obtain ⟨a5, cap5, hv5, hcells5⟩ := bits_cells hown
          subst hv5
          have HBE := Lib.hid hbel
          have HC5 := Lib.hid hcells5
          have hT : Hid (Bp.long W j = (W * j + 7) / 8) := rfl
          obtain ⟨T, hT2⟩ : ∃ T, T = Bp.long W j := ⟨_, rfl⟩
          have hT3 : T = (W * j + 7) / 8 := hT2
          obtain ⟨M, hM⟩ : ∃ M, M = W * j := ⟨_, rfl⟩
          have hM2 : M ≤ 8064 := by rw [hM]; exact Nat.mul_le_mul hW63 hn
          rw [← hM] at hVl HC5 hT3 ⊢
          obtain ⟨c0, hc0⟩ : ∃ c0, c0 = UInt8.ofNat W := ⟨_, rfl⟩
          have hW8 : (W : Int) = (c0.toNat : Int) := by rw [hc0, UInt8.toNat_ofNat']; omega
          have HG : Hid (Bp.blkB l = c0 :: Bp.leB T V) := by
            show _ = _
            unfold Bp.blkB
            rw [← hWl.out, HE.out, ← HV.out, ← hT2, hc0]
          have hlit := World.ownsRow_lit (e := 5) (size := 1) wr #[.int .u8 (W : Int)] 1 (Nat.le_refl _) (by unfold maxLen; omega) rfl
          have HLIT : Hid (OwnB (wr.alloc (.cells #[.int .u8 (W : Int)] 5)) wr.heap.size (.slice (some ⟨wr.heap.size, 0, none⟩) 1 1) [c0]) := by
            show World.ownsRow _ _ _ _ _ _ _
            have e : bytesV [c0] = [.int .u8 (W : Int)] := by rw [hW8]; rfl
            rw [e]
            exact hlit
          have hVl2 := Lib.hid hVl
          have hT4 := Lib.hid hT3
          clear hown hbel hcells5 hM hT hT2 hT3 hc0 hlit hmem hWl HE HV HC HL hVl hW8
          go_wp2_with fail
          generalize hw3 : wr.alloc (.cells #[.int .u8 (W : Int)] 5) = w3 at *
          have HB3 : Hid (Below wr.heap.size wr w3) := by
            show Below _ _ _
            rw [← hw3]
            exact (Below.refl _ _).alloc (Nat.le_refl _) _
          clear hw3
          generalize hw0 : wr = w2 at *
          clear hw0
          -- the bytes
          go_loopg [9, 10] T (fun g v i wx => ∃ p q : Nat, q ≤ T ∧ g = T - q ∧ i = .int .i64 (p : Int) ∧ Hid (p = 8 * q) ∧ OwnB wx w2.heap.size v (c0 :: Bp.leB q V) ∧ Below w2.heap.size w2 wx)
          case atStart => exact ⟨0, 0, Nat.zero_le _, rfl, rfl, rfl, HLIT.out, HB3.out⟩
          case round =>
            clear HLIT HB3
            obtain ⟨p, q, hq, rfl, rfl, hp, hown, hbel⟩ := hrel
            have hpq : p = 8 * q := hp.out
            by_cases hqT : q < T
            · have h8 : p < M := by have := hT4.out; omega
              have i1 : (p : Int) < (M : Int) := by omega
              obtain ⟨g5, rfl, hg5, hcell5⟩ := HC5.out (by omega)
              have HCW : Hid (∀ j, j < M → wr.cell? ⟨g5, j, none⟩ = some (.int .i64 ((V / 2 ^ j % 2 : Nat) : Int))) := fun j hj => (hbel.cell (p := ⟨g5, j, none⟩) hg5).trans (hcell5 j hj)
              have HOW := Lib.hid hown
              have HBW := Lib.hid hbel
              clear hown hbel hcell5 hpq
              go_wp2_with fail
              go_loopg [11, 12, 13] 8 (fun g x u k wx => ∃ c X U t : Nat, wr = wx ∧ c ≤ 8 ∧ g = 8 - c ∧ t ≤ M ∧ k = .int .i64 (t : Int) ∧ x = .int .i64 X ∧ u = .int .i64 U ∧ U ≤ 256 ∧ X < U ∧ Hid (U = 2 ^ c) ∧ Hid (X = V / 2 ^ p % 2 ^ c) ∧ Hid (t = p + c))
              case atStart => exact ⟨0, 0, 1, p, rfl, by omega, rfl, by omega, rfl, rfl, rfl, by omega, by omega, rfl, by show _ = _; rw [Nat.pow_zero, Nat.mod_one], rfl⟩
              case round =>
                obtain ⟨c, X, U, t, rfl, hc, rfl, hpc, rfl, rfl, rfl, hU, hXU, hUe, hXe, ht⟩ := hrel
                have ht2 : t = p + c := ht.out
                by_cases hgo : c < 8 ∧ t < M
                · obtain ⟨g1, g2⟩ := hgo
                  have k1 : (t : Int) < (p : Int) + 8 := by omega
                  have k2 : (t : Int) < (M : Int) := by omega
                  have hcl := HCW.out t g2
                  have hU2 : Hid (2 * U = 2 ^ (c + 1)) := by show _ = _; rw [hUe.out, Nat.pow_succ, Nat.mul_comm]
                  have hUl : U ≤ 128 := by
                    rw [hUe.out]
                    exact Nat.pow_le_pow_right (n := 2) (by omega) (by omega : c ≤ 7)
                  have hXn : Hid (V / 2 ^ p % 2 ^ (c + 1) = X + U * (V / 2 ^ t % 2)) := by
                    show _ = _
                    rw [mod_step, ← hXe.out, Nat.div_div_eq_div_mul, ← Nat.pow_add, ht2, ← hUe.out]
                  have hd2 : V / 2 ^ t % 2 = 0 ∨ V / 2 ^ t % 2 = 1 := by omega
                  have ht3 : Hid (t + 1 = p + (c + 1)) := by show _ = _; omega
                  clear ht2
                  generalize V / 2 ^ t % 2 = d at *
                  rcases hd2 with rfl | rfl
                  · have hX2 : Hid (X = V / 2 ^ p % 2 ^ (c + 1)) := by show _ = _; rw [hXn.out]; omega
                    clear hXn hXe hUe ht
                    go_wp2_with fail
                    go_roundg (8 - (c + 1))
                    case rel => exact ⟨c + 1, X, 2 * U, t + 1, rfl, by omega, rfl, by omega, by go_num, rfl, by go_num, by omega, by omega, hU2, hX2, ht3⟩
                    case measure => omega
                  · have hX2 : Hid (X + U = V / 2 ^ p % 2 ^ (c + 1)) := by show _ = _; rw [hXn.out]; omega
                    clear hXn hXe hUe ht
                    go_wp2_with fail
                    go_roundg (8 - (c + 1))
                    case rel => exact ⟨c + 1, X + U, 2 * U, t + 1, rfl, by omega, rfl, by omega, by go_num, by go_num, by go_num, by omega, by omega, hU2, hX2, ht3⟩
                    case measure => omega
                · have hX8 : X = V / 256 ^ q % 256 := by
                    rw [hXe.out, show (256 : Nat) ^ q = 2 ^ p from by rw [hp.out, Nat.pow_mul]]
                    by_cases hc8 : c = 8
                    · rw [hc8]
                    · have hM3 : M = p + c := by omega
                      have h1 : V / 2 ^ p < 2 ^ c := by
                        have h2 := hVl2.out
                        rw [hM3, Nat.pow_add] at h2
                        exact Nat.div_lt_of_lt_mul h2
                      have h3 : 2 ^ c ≤ 256 := Nat.pow_le_pow_right (n := 2) (by omega) (by omega : c ≤ 8)
                      rw [Nat.mod_eq_of_lt h1, Nat.mod_eq_of_lt (Nat.lt_of_lt_of_le h1 h3)]
                  obtain ⟨d8, hd8⟩ : ∃ d8, d8 = UInt8.ofNat X := ⟨_, rfl⟩
                  have hX256 : X < 256 := by rw [hX8]; omega
                  have hd8n : (X : Int) = (d8.toNat : Int) := by rw [hd8, UInt8.toNat_ofNat']; omega
                  have hd8m : X % 256 = d8.toNat := by omega
                  have hst : Hid ((c0 :: Bp.leB q V) ++ [d8] = c0 :: Bp.leB (q + 1) V) := by
                    show _ = _
                    rw [Bp.leB_snoc, hd8, hX8]
                    rfl
                  have hp3 : Hid (p + 8 = 8 * (q + 1)) := by show _ = _; have := hp.out; omega
                  have hlen : (c0 :: Bp.leB q V).length ≤ 8192 := by
                    rw [List.length_cons, Bp.leB_length]; have := hT4.out; omega
                  have hgo2 : ¬ ((t : Int) < (p : Int) + 8 ∧ (t : Int) < (M : Int)) := by omega
                  have hB := HBW.out.size
                  clear hX8 hXe hUe hd8 ht ht2 hgo hd8m
                  have HX := hd8n
                  rw [hd8n]
                  clear hd8n HX
                  generalize c0 :: Bp.leB q V = acc at *
                  have hown := HOW.out
                  have hown' : wr.ownsRow w2.heap.size 5 1 u9 acc.length (bytesV acc) := hown
                  have hdm : (d8.toNat : Int) % 256 = (d8.toNat : Int) := by have := d8.toNat_lt; omega
                  by_cases hk1 : (t : Int) < (p : Int) + 8
                  · have hk2 : ¬ (t : Int) < (M : Int) := fun h => hgo2 ⟨hk1, h⟩
                    clear hgo2
                    go_wp2_with (at_builtin; refine wpList_append_own _ rfl _ _ 54 rfl w2.heap.size 5 ib (.int .u8 0) 1 1 Try.underlying54 hib hbz0 hbz1 hbz2 rfl (by decide) _ _ _ rfl (hown'.alloc _) ⟨wr.heap.size, 0, none⟩ 1 1 [.int .u8 (d8.toNat : Int)] rfl rfl ?c1 ?c2 ?c3 ?c4 ?c5 ?_)
                    case c2 => rfl
                    case c3 => unfold maxLen; omega
                    case c4 => omega
                    case c5 => omega
                    · intro v' w4 hown1 hgrow _
                      have R := own_push hB hown HBW.out hown1 hgrow
                      rw [hst.out] at R
                      obtain ⟨R1, R2⟩ := R
                      have HR1 := Lib.hid R1
                      have HR2 := Lib.hid R2
                      clear hown1 hgrow hown hown' R1 R2 hst
                      go_wp2
                      go_roundg (T - (q + 1))
                      case rel => exact ⟨p + 8, q + 1, by omega, rfl, by go_num, hp3, HR1.out, HR2.out⟩
                      case measure => omega
                  · clear hgo2
                    go_wp2_with (at_builtin; refine wpList_append_own _ rfl _ _ 54 rfl w2.heap.size 5 ib (.int .u8 0) 1 1 Try.underlying54 hib hbz0 hbz1 hbz2 rfl (by decide) _ _ _ rfl (hown'.alloc _) ⟨wr.heap.size, 0, none⟩ 1 1 [.int .u8 (d8.toNat : Int)] rfl rfl ?d1 ?d2 ?d3 ?d4 ?d5 ?_)
                    case d2 => rfl
                    case d3 => unfold maxLen; omega
                    case d4 => omega
                    case d5 => omega
                    · intro v' w4 hown1 hgrow _
                      have R := own_push hB hown HBW.out hown1 hgrow
                      rw [hst.out] at R
                      obtain ⟨R1, R2⟩ := R
                      have HR1 := Lib.hid R1
                      have HR2 := Lib.hid R2
                      clear hown1 hgrow hown hown' R1 R2 hst
                      go_wp2
                      go_roundg (T - (q + 1))
                      case rel => exact ⟨p + 8, q + 1, by omega, rfl, by go_num, hp3, HR1.out, HR2.out⟩
                      case measure => omega
            · obtain rfl : q = T := by omega
              have i1 : ¬ (p : Int) < (M : Int) := by have := hT4.out; omega
              have hcv := own_conv hown
              have HBW : Hid (Below w.heap.size w wr) := HBE.out.trans (hbel.mono HBE.out.size)
              clear hown hbel hpq
              go_wp2_with fail
              go_ret
              exact ⟨ret_str (by rw [HG.out]), HBW.out⟩
end Go.Proofs.Ytokdjaljeckghaa
