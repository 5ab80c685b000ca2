/-
  What the document's own Seal and Open answer: the same plain functions as the program's.
-/
import Derived.Test.YtmflmckmamckfaaRefSum
import Derived.Test.YtmflmckmamckfaaHold
import Derived.Test.YtmflmckmamckfaaRefAll
namespace Go.Proofs.Ytmflmckmamckfaa
open Go.RowKit

theorem conv_below {w w' : World} {c : UInt8} (hb : Below (w.alloc (.cells #[.int .u8 (c.toNat : Int)] 5)).heap.size (w.alloc (.cells #[.int .u8 (c.toNat : Int)] 5)) w') :
    (convert 37 9 (.slice (some ⟨w.heap.size, 0, none⟩) 1 1)).run Try.prog w' = .ok (.string ⟨#[c]⟩) w' := by
  have := run_convert_bytes_back (P := Try.prog) w' 37 9 5 ⟨w.heap.size, 0, none⟩ 1 [c] Try.underlying37 Try.underlying5 Try.underlying9 (by
    intro j hj
    match j, hj with
    | 0, _ =>
      rw [Addr.add_lit, hb.cell (by simp), World.cell?_alloc_at _ _ _ _ rfl]
      rfl)
  exact this

theorem conv_below_d {w w' : World} {c : UInt8} (hb : Below (w.alloc (.cells #[.int .u8 (c.toNat : Int)] 5)).drew.heap.size (w.alloc (.cells #[.int .u8 (c.toNat : Int)] 5)).drew w') :
    (convert 37 9 (.slice (some ⟨w.heap.size, 0, none⟩) 1 1)).run Try.prog w' = .ok (.string ⟨#[c]⟩) w' :=
  conv_below (w := w) (c := c) ⟨hb.os, hb.tape, hb.output, hb.size, hb.block⟩

theorem chain_a {w w' w1 : World} {o : Obj} (hb : Below (w.alloc o).drew.heap.size (w.alloc o).drew w') (hs : Below w'.heap.size w' w1) : Below w.heap.size w w1 := by
  have h : Below w.heap.size w w' := ((Below.refl _ _).alloc (Nat.le_refl _) o).drew.trans (hb.mono (by show w.heap.size ≤ (w.alloc o).heap.size; simp))
  exact h.trans (hs.mono h.size)
theorem chain_b {w w' w1 : World} {o : Obj} (hb : Below w.drew.heap.size w.drew w') (hs : Below (w'.alloc o).heap.size (w'.alloc o) w1) : Below w.heap.size w w1 := by
  have h0 : Below w.heap.size w w' := (Below.refl w.heap.size w).drew.trans hb
  have h : Below w.heap.size w (w'.alloc o) := h0.alloc h0.size o
  exact h.trans (hs.mono h.size)
/-- One byte more of the four. -/
theorem le4_step (x k : Nat) (hk : k < 4) : (Pl.le4 x).take (k + 1) = (Pl.le4 x).take k ++ [UInt8.ofNat (x / 256 ^ k % 256)] := by
  match k, hk with
  | 0, _ => simp [Pl.le4]
  | 1, _ => simp [Pl.le4]
  | 2, _ => simp [Pl.le4]
  | 3, _ => simp [Pl.le4]

set_option maxRecDepth 100000 in
set_option maxHeartbeats 1000000 in
theorem sealR_no (n : Int) (s : ByteArray) (w : World) (hn : ¬ (0 ≤ n ∧ n ≤ 255)) :
    Calls Try.prog 8 #[.int .i64 n, .string s] w fun e' w' => e' = .returned (.tuple #[.string ⟨#[]⟩, .int .i64 1]) ∧ w = w' := by
  by_cases h : n < 0
  · clear hn
    go_enter Try.func8, Try.ntmps8
    go_wp2_with fail
    go_ret2
    exact ⟨rfl, rfl⟩
  · have h1 : 255 < n := by omega
    clear hn
    go_enter Try.func8, Try.ntmps8
    go_wp2_with fail
    go_ret2
    exact ⟨rfl, rfl⟩

set_option maxRecDepth 100000 in
set_option maxHeartbeats 1000000 in
theorem sealR_c (c : UInt8) (s : ByteArray) (hsz : s.size ≤ 4294967296) (w : World) :
    Calls Try.prog 8 #[.int .i64 (c.toNat : Int), .string s] w fun e' w' => e' = .returned (.tuple #[.string ⟨(sealB c.toNat s.data.toList).toArray⟩, .int .i64 0]) ∧ Below w.heap.size w w' := by
  obtain ⟨i0, hi, hz0, hz1, hz2⟩ := info_parts Try.infoB
  have hlt := c.toNat_lt
  have hcv : ∀ w : World, (convert 37 9 (.slice (some ⟨w.heap.size, 0, none⟩) 1 1)).run Try.prog (w.alloc (.cells #[.int .u8 (c.toNat : Int)] 5)).drew = .ok (.string ⟨#[c]⟩) (w.alloc (.cells #[.int .u8 (c.toNat : Int)] 5)).drew := fun w => conv_below (Below.refl _ _).drew
  have hcv1 : ∀ w : World, (convert 37 9 (.slice (some ⟨w.heap.size, 0, none⟩) 1 1)).run Try.prog (w.alloc (.cells #[.int .u8 (c.toNat : Int)] 5)) = .ok (.string ⟨#[c]⟩) (w.alloc (.cells #[.int .u8 (c.toNat : Int)] 5)) := fun w => one_conv w c
  have hq1 : IntKind.u8.wrap (c.toNat : Int) = (c.toNat : Int) := IntWalk.u8_in _ (by omega)
  have hq2 : ¬ (c.toNat : Int) < 0 := by omega
  have hq3 : ¬ 255 < (c.toNat : Int) := by omega
  have hc2 : Hid (∀ w', Calls Try.prog 19 #[.string s] w' fun e' w'' => e' = .returned (.string ⟨(blockB s.data.toList).toArray⟩) ∧ Below w'.heap.size w' w'') := fun w' => blockR_w s w' (by omega)
  have ha := headBlock_length c.toNat s.data.toList
  have hl : s.data.toList.length = s.size := by simp
  have hhd : headB c.toNat = [103, 108, 115] ++ [c] := by simp [headB]
  have hz : (⟨(headB c.toNat ++ blockB s.data.toList).toArray⟩ : ByteArray).size ≤ 4294967309 := by
    rw [size_mk]; omega
  have hc3 : Hid (∀ w', Calls Try.prog 11 #[.string ⟨(headB c.toNat ++ blockB s.data.toList).toArray⟩] w' fun e' w'' => e' = .returned (.int .u32 (Pl.crc (headB c.toNat ++ blockB s.data.toList))) ∧ Below w'.heap.size w' w'') := fun w' => by
    have h := refSum_any ⟨(headB c.toNat ++ blockB s.data.toList).toArray⟩ (by omega) w'
    exact h
  have hx := Pl.crc_lt (headB c.toNat ++ blockB s.data.toList)
  have hb2 : (⟨(blockB s.data.toList).toArray⟩ : ByteArray).size ≤ 4294967309 := by
    rw [size_mk] at hz ⊢
    rw [List.length_append] at hz
    omega
  have hm1 : (⟨#[103, 108, 115]⟩ : ByteArray) ++ ⟨#[c]⟩ = ⟨([103, 108, 115] ++ [c]).toArray⟩ := append_mk [103, 108, 115] c
  have hm2 := add_mk ([103, 108, 115] ++ [c]) (blockB s.data.toList)
  unfold sealB tailB
  rw [hhd] at hc3 hz hx ⊢
  clear ha hl hhd hlt
  generalize blockB s.data.toList = bl at *
  generalize hH : [103, 108, 115] ++ [c] = hd at *
  clear hH
  have hsz2 : (⟨hd.toArray⟩ : ByteArray).size ≤ 4294967309 := by
    rw [size_mk] at hz ⊢
    rw [List.length_append] at hz
    omega
  have n1 : ¬ 9223372036854775807 < (⟨hd.toArray⟩ : ByteArray).size + (⟨bl.toArray⟩ : ByteArray).size := by omega
  have hm3 := Lib.hid (add_mk (hd ++ bl) (Pl.le4 (Pl.crc (hd ++ bl))))
  generalize Pl.crc (hd ++ bl) = x at *
  generalize hd ++ bl = al at *
  generalize (⟨hd.toArray⟩ : ByteArray) = hh at *
  generalize (⟨bl.toArray⟩ : ByteArray) = bb at *
  go_enter Try.func8, Try.ntmps8
  go_wp2_with fail
  go_region_with (go_at_call 19; refine (hc2.out _).mono ?_; rintro e w' ⟨rfl, hb⟩; (try have hcv2 := conv_below hb); (try have hcv3 := conv_below_d hb))
  all_goals
    go_wp2_with fail
    refine (hc3.out _).mono ?_
    rintro e1 w1 ⟨rfl, hs1⟩
    have HB : Hid (Below w.heap.size w w1) := by
      first
      | exact chain_a hb hs1
      | exact chain_b hb hs1
    clear hb hs1 hcv hcv1
    go_wp2_with fail
    go_loopg [7, 8, 9] 4 (fun g y v i wx => ∃ k X : Nat, k ≤ 4 ∧ g = 4 - k ∧ i = .int .i64 k ∧ y = .int .u32 X ∧ X < 4294967296 ∧ Hid (X = x / 256 ^ k) ∧ OwnB wx w.heap.size v ((Pl.le4 x).take k) ∧ Below w.heap.size w wx)
    case atStart => exact ⟨0, x, by omega, rfl, rfl, rfl, hx, by show _ = _; simp, World.ownsRow_nil _ _ _ _, HB.out⟩
    case round =>
      clear HB
      obtain ⟨k, X, hk, rfl, rfl, rfl, hX, hXe, hown, hbel⟩ := hrel
      have hB := hbel.size
      by_cases hk4 : k < 4
      · obtain ⟨d, hd⟩ : ∃ d, d = UInt8.ofNat (X % 256) := ⟨_, rfl⟩
        have hdn : d.toNat = X % 256 := by rw [hd, UInt8.toNat_ofNat']; omega
        have e1 : (X : Int) % 256 = (d.toNat : Int) := by omega
        have e2 : (d.toNat : Int) % 256 = (d.toNat : Int) := by have := d.toNat_lt; omega
        have e3 : (X : Int) / 256 = ((X / 256 : Nat) : Int) := by omega
        have hst : Hid ((Pl.le4 x).take (k + 1) = (Pl.le4 x).take k ++ [d]) := by
          show _ = _
          rw [le4_step x k hk4, hd, hXe.out]
        have hX2 : Hid (X / 256 = x / 256 ^ (k + 1)) := by
          show _ = _
          rw [hXe.out, Nat.pow_succ, Nat.div_div_eq_div_mul]
        have hXl : X / 256 < 4294967296 := by omega
        have i1 : (k : Int) < 4 := by omega
        have hlen : ((Pl.le4 x).take k).length ≤ 4 := by rw [List.length_take, Pl.le4_length]; omega
        clear hd hdn hXe
        generalize X / 256 = X2 at *
        generalize (Pl.le4 x).take k = acc at *
        have hown' : wr.ownsRow w.heap.size 5 1 u8 acc.length (bytesV acc) := hown
        go_wp2_with (at_builtin; refine wpList_append_own _ rfl _ _ 37 rfl w.heap.size 5 i0 (.int .u8 0) 1 1 Try.underlying37 hi hz0 hz1 hz2 rfl (by decide) _ _ _ rfl (hown'.alloc _) ⟨wr.heap.size, 0, none⟩ 1 1 [.int .u8 (d.toNat : Int)] rfl rfl ?c1 ?c2 ?c3 ?c4 ?c5 ?_)
        case c1 =>
          intro j u hj
          match j, hj with
          | 0, hj => simp at hj; subst hj; simp [Addr.add]
        case c2 => intro u hu; simp at hu; subst hu; rfl
        case c3 => unfold maxLen; omega
        case c4 => omega
        case c5 => simp; omega
        · intro v' w2 hown1 hgrow _
          have R := own_push hB hown hbel hown1 hgrow
          rw [← hst.out] at R
          obtain ⟨R1, R2⟩ := R
          have HR1 := Lib.hid R1
          have HR2 := Lib.hid R2
          clear hown1 hgrow hown hown' hbel R1 R2 hst
          go_wp2
          go_roundg (4 - (k + 1))
          case rel => exact ⟨k + 1, X2, by omega, rfl, by go_num, rfl, hXl, hX2, HR1.out, HR2.out⟩
          case measure => omega
      · obtain rfl : k = 4 := by omega
        rw [show (Pl.le4 x).take 4 = Pl.le4 x from rfl] at hown
        have hcvb := own_conv hown
        have n2 : (⟨(Pl.le4 x).toArray⟩ : ByteArray).size ≤ 4 := by rw [size_mk, Pl.le4_length]; omega
        have HB := Lib.hid hbel
        clear hown hbel
        go_wp2_with fail
        go_ret2
        exact ⟨ret_si hm3.out rfl, HB.out⟩
end Go.Proofs.Ytmflmckmamckfaa
