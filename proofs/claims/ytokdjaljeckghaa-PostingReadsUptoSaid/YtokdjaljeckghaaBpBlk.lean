/-
  What appendBlock does: a block's bytes stand behind others.
-/
import Derived.Test.YtokdjaljeckghaaOwnM
namespace Go.Proofs.Ytokdjaljeckghaa
open Go.RowKit

theorem pk_snoc (W : Nat) (l : List Nat) (x : Nat) : Bp.pk W (l ++ [x]) = Bp.pk W l + 2 ^ (W * l.length) * x := by
  induction l with
  | nil => simp [Bp.pk]
  | cons y t ih =>
    simp only [List.cons_append, Bp.pk, ih, List.length_cons]
    rw [Nat.mul_add, Nat.mul_succ, Nat.add_comm (W * t.length) W, Nat.pow_add, Nat.mul_assoc, Nat.add_assoc]
theorem pk_take (W : Nat) (l : List Nat) (k : Nat) (h : k < l.length) : Bp.pk W (l.take (k + 1)) = Bp.pk W (l.take k) + 2 ^ (k * W) * l[k] := by
  rw [List.take_succ_eq_append_getElem h, pk_snoc, List.length_take, Nat.min_eq_left (by omega), Nat.mul_comm W]
/-- A row of bytes, as what is appended. -/
theorem RowB.news {w : World} {g T V : Nat} (h : RowB w g T V) : ∀ j u, (bytesV (Bp.leB T V))[j]? = some u → w.cell? ((⟨g, 0, none⟩ : Addr).add j) = some u := by
  intro j u hj
  have hjl : j < (Bp.leB T V).length := by
    have := (List.getElem?_eq_some_iff.1 hj).1
    simpa [bytesV] using this
  have hjT : j < T := by rw [Bp.leB_length] at hjl; exact hjl
  have e : (Bp.leB T V)[j].toNat = Bp.cel V j := by
    have h1 := Bp.num_cel (Bp.leB T V) j hjl
    rw [Bp.num_leB] at h1
    rw [← h1]
    unfold Bp.cel
    rw [Bp.pow256, Bp.pow256, show (8 * T : Nat) = 8 * j + (8 * T - 8 * j) from by omega, Nat.pow_add, Nat.mod_mul_right_div_self, show (256 : Nat) = 2 ^ 8 from rfl, Nat.mod_mod_of_dvd _ (Nat.pow_dvd_pow 2 (by omega))]
  rw [Addr.add_lit, Nat.zero_add, World.rowIs.cell h hjT]
  rw [List.getElem?_eq_getElem (by simpa [bytesV] using hjl)] at hj
  simp only [bytesV, List.getElem_map, Option.some.injEq] at hj
  rw [← hj, e]

set_option maxRecDepth 100000 in
set_option maxHeartbeats 4000000 in
theorem appendBlock_any (w w0 : World) (B : Nat) (v : Value) (out : List UInt8) (b off len cap : Nat) (l : List Nat) (hlen : l.length = len) (hn : len ≤ 128) (hown : OwnM w B v out) (hbel : Below B w0 w) (hB : B ≤ w.heap.size) (hl : out.length + 2000 ≤ 140737488355328) (hb : b < B)
    (hc : ∀ j (h : j < l.length), w.cell? ⟨b, off + j, none⟩ = some (.int .i64 (l[j] : Int))) (hlt : ∀ x ∈ l, x < 9223372036854775808) :
    Calls Try.prog 43 #[v, .slice (some ⟨b, off, none⟩) len cap] w (OwnMPost B w0 (out ++ Bp.blkB l)) := by
  have HC := Lib.hid hc
  have HL := Lib.hid hlt
  have HE := Lib.hid hlen
  have HO := Lib.hid hown
  have HBE := Lib.hid hbel
  have hbw : b < w.heap.size := Nat.lt_of_lt_of_le hb hB
  clear hc hlt hlen hown hbel
  go_enter Try.func43, Try.ntmps43
  go_wp2_with fail
  -- all numbers, or-ed
  go_loopg [5, 14] len (fun g x i wx => ∃ k O : Nat, w = wx ∧ k ≤ len ∧ g = len - k ∧ i = .int .i64 (k : Int) ∧ x = .int .i64 (O : Int) ∧ O < 9223372036854775808 ∧ Hid (Lib.bitLen O = Bp.wd (l.take k)))
  case atStart => exact ⟨0, 0, rfl, Nat.zero_le _, rfl, rfl, rfl, by omega, rfl⟩
  case round =>
    obtain ⟨k, O, rfl, hk, rfl, rfl, rfl, hO, hOe⟩ := hrel
    by_cases hkl : k < len
    · have i1 : (k : Int) < (len : Int) := by omega
      have hx : k < l.length := by rw [HE.out]; exact hkl
      have hcell := HC.out k hx
      have hst := Lib.hid (wd_take l k hx)
      have hxl := HL.out l[k] (List.getElem_mem hx)
      have hor := Bp.i64_or_nat O l[k] hO hxl
      have hlo : O ||| l[k] < 9223372036854775808 := by simpa using Nat.or_lt_two_pow (n := 63) (by simpa using hO) (by simpa using hxl)
      have hO2 : Hid (Lib.bitLen (O ||| l[k]) = Bp.wd (l.take (k + 1))) := by
        show _ = _
        rw [Bp.len_or O l[k] hO hxl, hst.out, hOe.out]
      clear hst hOe
      generalize O ||| l[k] = O2 at *
      generalize l[k] = x at *
      go_wp2_with fail
      go_roundg (len - (k + 1))
      case rel => exact ⟨k + 1, O2, rfl, by omega, rfl, by go_num, by first | rfl | go_num, hlo, hO2⟩
      case measure => omega
    · obtain rfl : k = len := by omega
      have hWl : Lib.bitLen O = Bp.wd l := by
        rw [hOe.out, List.take_of_length_le (by rw [HE.out]; exact Nat.le_refl _)]
      have hW63 : Lib.bitLen O ≤ 63 := by rw [hWl]; exact Bp.wd_lt l HL.out
      have hmem : Hid (∀ x ∈ l, x < 2 ^ Lib.bitLen O) := by show ∀ x ∈ l, x < 2 ^ Lib.bitLen O; rw [hWl]; exact Bp.wd_mem l HL.out
      have HWL := Lib.hid hWl
      have hbits := Lib.hid (bitsOf_any O hO)
      clear hOe hWl hk hkl
      generalize Lib.bitLen O = W at *
      have hbytes := Lib.hid (bytesOf_any k W hn (by omega))
      have hT : Hid (Bp.long W k = (W * k + 7) / 8) := rfl
      have hWk : W * k ≤ 63 * 128 := Nat.mul_le_mul hW63 hn
      have hT8 : W * k ≤ 8 * Bp.long W k := by rw [hT.out]; omega
      have hTl : Bp.long W k ≤ 1008 := by rw [hT.out]; omega
      have HTe : Hid (Bp.blkB l = UInt8.ofNat W :: Bp.leB (Bp.long W k) (Bp.pk W l)) := by
        show _ = _
        unfold Bp.blkB
        rw [← HWL.out, HE.out]
      clear hT
      generalize Bp.long W k = T at *
      have hmk := run_make_row' (P := Try.prog) 54 5 (.int .u8 0) 1 Try.underlying54 Try.infoB rfl .i64 .i64 T (by omega) (by omega)
      have hst : Hid (RowB (w.alloc (.cells (madeCells #[.int .u8 0] T) 5)) w.heap.size T 0) := (World.rowIs_made w (.int .u8 0) T 5).congr fun j _ => by simp [Bp.cel]
      have hal : Hid (Below w.heap.size w (w.alloc (.cells (madeCells #[.int .u8 0] T) 5))) := (Below.refl _ _).alloc (Nat.le_refl _) _
      go_wp2_with (first | (go_at_call 59; refine (hbits.out _).mono ?_; rintro e1 w1 ⟨rfl, rfl⟩) | (go_at_call 60; refine (hbytes.out _).mono ?_; rintro e1 w1 ⟨rfl, rfl⟩))
      -- each is put
      go_loopg [31] k (fun g i wx => ∃ j : Nat, j ≤ k ∧ g = k - j ∧ i = .int .i64 (j : Int) ∧ RowB wx w.heap.size T (Bp.pk W (l.take j)) ∧ Below w.heap.size w wx)
      case atStart => exact ⟨0, Nat.zero_le _, rfl, rfl, by rw [List.take_zero]; exact hst.out, hal.out⟩
      case round =>
        clear hst hal hmk hbits hbytes
        obtain ⟨j, hj, rfl, rfl, hrow, hbl⟩ := hrel
        by_cases hjk : j < k
        · have i1 : (j : Int) < (k : Int) := by omega
          have hx : j < l.length := by rw [HE.out]; exact hjk
          have hcell : wr.cell? ⟨b, off + j, none⟩ = some (.int .i64 (l[j] : Int)) := (hbl.cell (p := ⟨b, off + j, none⟩) hbw).trans (HC.out j hx)
          have hxl := HL.out l[j] (List.getElem_mem hx)
          have hxw := hmem.out l[j] (List.getElem_mem hx)
          have hst := Lib.hid (pk_take W l j hx)
          have hV : Bp.pk W (l.take j) < 2 ^ (j * W) := by
            have h := Bp.pk_lt W (l.take j) (fun x hx => hmem.out x (List.mem_of_mem_take hx))
            rw [List.length_take, Nat.min_eq_left (by omega), Nat.mul_comm] at h
            exact h
          have hjw : (j + 1) * W ≤ k * W := Nat.mul_le_mul_right W hjk
          rw [Nat.add_mul, Nat.one_mul, Nat.mul_comm k W] at hjw
          have hfit : l[j] < 2 ^ (8 * T - j * W) := Nat.lt_of_lt_of_le hxw (Nat.pow_le_pow_right (by omega) (by omega))
          have hput := Lib.hid (putBits_any wr w.heap.size T T (j * W) l[j] _ hrow hV (by omega) (by omega) hfit (by omega))
          obtain ⟨iw, hiw⟩ : ∃ iw, iw = j * W := ⟨_, rfl⟩
          have hiwm : (j : Int) * (W : Int) = (iw : Int) := by rw [hiw]; simp
          have hiw8 : iw ≤ 8064 := by omega
          rw [← hiw] at hput hst
          have HBL := Lib.hid hbl
          clear hrow hbl hV hfit hjw hxw hiw
          generalize l[j] = x at *
          go_wp2_with (go_at_call 61; refine hput.out.mono ?_; rintro e1 w1 ⟨rfl, hrow1, hbl1⟩; have HR1 := Lib.hid hrow1; have HB1 : Hid (Below w.heap.size w w1) := HBL.out.trans hbl1; clear hrow1 hbl1)
          go_roundg (k - (j + 1))
          case rel => exact ⟨j + 1, by omega, rfl, by go_num, by rw [hst.out]; exact HR1.out, HB1.out⟩
          case measure => omega
        · obtain rfl : j = k := by omega
          rw [List.take_of_length_le (by rw [HE.out]; exact Nat.le_refl _)] at hrow
          have HRW := Lib.hid hrow
          have HBL := Lib.hid hbl
          have hO2 : OwnM wr B v out := HO.out.keep hbl (Nat.le_refl _)
          have hB2 : Below B w0 wr := HBE.out.trans (hbl.mono hB)
          have hBr : B ≤ wr.heap.size := Nat.le_trans hB hbl.size
          obtain ⟨c0, hc0⟩ : ∃ c0, c0 = UInt8.ofNat W := ⟨_, rfl⟩
          have hW8 : (W : Int) = (c0.toNat : Int) := by rw [hc0, UInt8.toNat_ofNat']; omega
          have hcm : (W : Int) % 256 = (c0.toNat : Int) := by omega
          have hTe2 : Hid (Bp.blkB l = c0 :: Bp.leB T (Bp.pk W l)) := by show _ = _; rw [HTe.out, hc0]
          have hsz1 : B ≤ (wr.alloc (.cells #[.int .u8 (c0.toNat : Int)] 5)).heap.size := by simp; omega
          have hn1 : ∀ j u, (bytesV [c0])[j]? = some u → (wr.alloc (.cells #[.int .u8 (c0.toNat : Int)] 5)).cell? ((⟨wr.heap.size, 0, none⟩ : Addr).add j) = some u := by
            intro j u hj
            match j, hj with
            | 0, hj => simp [bytesV] at hj; subst hj; simp [Addr.add]
          have HO2 := Lib.hid (And.intro (hO2.alloc (.cells #[.int .u8 (c0.toNat : Int)] 5)) (And.intro (hB2.alloc hBr (.cells #[.int .u8 (c0.toNat : Int)] 5)) (And.intro hsz1 hn1)))
          clear hrow hbl hO2 hB2 HTe hc0 HBE hn1
          go_wp2_with (at_builtin; refine wpList_ownM rfl _ _ rfl rfl B HO2.out.2.2.1 _ out [c0] rfl HO2.out.1 ⟨wr.heap.size, 0, none⟩ 1 1 rfl rfl HO2.out.2.2.2 ?c4 ?_)
          case c4 => show out.length + 1 ≤ _; omega
          · intro v1 w2 hown1 hgrow1
            have hbe2 := ownM_below HO2.out.2.2.1 HO2.out.1 HO2.out.2.1 hgrow1
            have hrow2 : RowB w2 w.heap.size T (Bp.pk W l) := by
              have hg : w.heap.size < wr.heap.size := World.rowIs.lt HRW.out
              have h1 : RowB (wr.alloc (.cells #[.int .u8 (c0.toNat : Int)] 5)) w.heap.size T (Bp.pk W l) := World.rowIs.alloc HRW.out _
              refine World.rowIs.of_block h1 (hgrow1.block _ (by simp; omega) ?_)
              intro e
              have := HO.out.lt _ e.symm
              omega
            have hB2 : B ≤ w2.heap.size := Nat.le_trans hsz1 hgrow1.size
            have hl3 : (out ++ [c0]).length = out.length + 1 := by simp
            have hnews := hrow2.news
            have HR := Lib.hid (And.intro hown1 hbe2)
            have HN := Lib.hid hnews
            have HGE : Hid (Bp.blkB l = [c0] ++ Bp.leB T (Bp.pk W l)) := hTe2.out
            have hll : Hid ((Bp.leB T (Bp.pk W l)).length = T) := Bp.leB_length _ _
            clear hown1 hgrow1 hbe2 hrow2 hnews hTe2 HRW HO2
            generalize Bp.leB T (Bp.pk W l) = packed at *
            go_wp2_with (at_builtin; refine wpList_ownM rfl _ _ rfl rfl B hB2 _ (out ++ [c0]) packed rfl HR.out.1 ⟨w.heap.size, 0, none⟩ T T rfl hll.out HN.out ?d2 ?_)
            case d2 => rw [hl3, hll.out]; omega
            · intro v2 w3 hown2 hgrow2
              have hbe3 := ownM_below hB2 HR.out.1 HR.out.2 hgrow2
              have H3 : Hid (OwnM w3 B v2 (out ++ Bp.blkB l)) := by show OwnM _ _ _ _; rw [HGE.out]; simpa using hown2
              have H4 := Lib.hid hbe3
              clear hown2 hgrow2 HR HN HGE hbe3
              go_wp2
              go_ret
              exact ⟨_, rfl, H3.out, H4.out⟩
end Go.Proofs.Ytokdjaljeckghaa
