/-
  What Rows answers.
-/
import Derived.Test.YtmpjhbbcfnffhaaYg
namespace Go.Proofs.Ytmpjhbbcfnffhaa
open Go.RowKit

namespace Sp
def upto (lo hi : Int) (k : Nat) : List (Int × Int) := (cuts.take k).flatMap fun k => segs (max lo k.1) (min hi k.2.1) k.2.2
theorem upto_all (lo hi : Int) : upto lo hi 5 = pairs lo hi := rfl
theorem upto_step (lo hi : Int) (k : Nat) (f l : Int) (tl : Nat) (hc : cuts[k]? = some (f, l, tl)) : upto lo hi (k + 1) = upto lo hi k ++ segs (max lo f) (min hi l) tl := by
  unfold upto
  rw [List.take_add_one, hc, Option.toList_some, List.flatMap_append]
  simp
theorem upto_len (lo hi : Int) (k : Nat) : (upto lo hi k).length ≤ 20 := by
  have h := rows_few lo hi
  unfold rows at h
  rw [List.length_map] at h
  refine Nat.le_trans ?_ h
  unfold upto pairs
  conv => rhs; rw [← List.take_append_drop k cuts]
  rw [List.flatMap_append, List.length_append]
  exact Nat.le_add_right _ _
theorem done_len {lo hi : Int} {k : Nat} {f l : Int} {tl : Nat} (hc : cuts[k]? = some (f, l, tl)) {done rest : List (Int × Int)} (e : segs (max lo f) (min hi l) tl = done ++ rest) : (upto lo hi k ++ done).length ≤ 20 := by
  have h1 := upto_len lo hi (k + 1)
  rw [upto_step lo hi k f l tl hc, e] at h1
  simp only [List.length_append] at h1 ⊢
  omega
theorem cut_last {f l : Int} {tails : Nat} (h : InCut f l tails) : l ≤ 1114111 := by cases h <;> omega
theorem cut_at (k : Nat) (h : k < 5) : ∃ f l tl, cuts[k]? = some (f, l, tl) ∧ InCut f l tl := by
  have hk : k = 0 ∨ k = 1 ∨ k = 2 ∨ k = 3 ∨ k = 4 := by omega
  rcases hk with rfl | rfl | rfl | rfl | rfl
  · exact ⟨_, _, _, rfl, .c0⟩
  · exact ⟨_, _, _, rfl, .c1⟩
  · exact ⟨_, _, _, rfl, .c2⟩
  · exact ⟨_, _, _, rfl, .c3⟩
  · exact ⟨_, _, _, rfl, .c4⟩
end Sp
theorem mem_snoc {w : World} {B : Nat} {v : Value} {gs : List Nat} {L : List (List (Int × Int))} (h : RowsO w B v gs L) {G : Nat} (hG : w.heap.size ≤ G) : ∀ g ∈ gs, g < G := fun g hg => by have := h.blocks g hg; omega
theorem cut_index0 (w : World) : (Instr.index 45 (.agg #[.int .i64 0, .int .i64 127, .int .i64 0, .int .i64 128, .int .i64 2047, .int .i64 1, .int .i64 2048, .int .i64 55295, .int .i64 2, .int .i64 57344, .int .i64 65535, .int .i64 2, .int .i64 65536, .int .i64 1114111, .int .i64 3]) (.int .i64 0)).run Try.prog w = .ok (.agg #[.int .i64 0, .int .i64 127, .int .i64 0]) w := by kernel_rfl
theorem cut_index1 (w : World) : (Instr.index 45 (.agg #[.int .i64 0, .int .i64 127, .int .i64 0, .int .i64 128, .int .i64 2047, .int .i64 1, .int .i64 2048, .int .i64 55295, .int .i64 2, .int .i64 57344, .int .i64 65535, .int .i64 2, .int .i64 65536, .int .i64 1114111, .int .i64 3]) (.int .i64 1)).run Try.prog w = .ok (.agg #[.int .i64 128, .int .i64 2047, .int .i64 1]) w := by kernel_rfl
theorem cut_index2 (w : World) : (Instr.index 45 (.agg #[.int .i64 0, .int .i64 127, .int .i64 0, .int .i64 128, .int .i64 2047, .int .i64 1, .int .i64 2048, .int .i64 55295, .int .i64 2, .int .i64 57344, .int .i64 65535, .int .i64 2, .int .i64 65536, .int .i64 1114111, .int .i64 3]) (.int .i64 2)).run Try.prog w = .ok (.agg #[.int .i64 2048, .int .i64 55295, .int .i64 2]) w := by kernel_rfl
theorem cut_index3 (w : World) : (Instr.index 45 (.agg #[.int .i64 0, .int .i64 127, .int .i64 0, .int .i64 128, .int .i64 2047, .int .i64 1, .int .i64 2048, .int .i64 55295, .int .i64 2, .int .i64 57344, .int .i64 65535, .int .i64 2, .int .i64 65536, .int .i64 1114111, .int .i64 3]) (.int .i64 3)).run Try.prog w = .ok (.agg #[.int .i64 57344, .int .i64 65535, .int .i64 2]) w := by kernel_rfl
theorem cut_index4 (w : World) : (Instr.index 45 (.agg #[.int .i64 0, .int .i64 127, .int .i64 0, .int .i64 128, .int .i64 2047, .int .i64 1, .int .i64 2048, .int .i64 55295, .int .i64 2, .int .i64 57344, .int .i64 65535, .int .i64 2, .int .i64 65536, .int .i64 1114111, .int .i64 3]) (.int .i64 4)).run Try.prog w = .ok (.agg #[.int .i64 65536, .int .i64 1114111, .int .i64 3]) w := by kernel_rfl
theorem cut_index (k : Nat) (f l : Int) (tl : Nat) (h : Sp.cuts[k]? = some (f, l, tl)) (w : World) :
    (Instr.index 45 (.agg #[.int .i64 0, .int .i64 127, .int .i64 0, .int .i64 128, .int .i64 2047, .int .i64 1, .int .i64 2048, .int .i64 55295, .int .i64 2, .int .i64 57344, .int .i64 65535, .int .i64 2, .int .i64 65536, .int .i64 1114111, .int .i64 3]) (.int .i64 (k : Int))).run Try.prog w = .ok (.agg #[.int .i64 f, .int .i64 l, .int .i64 (tl : Int)]) w := by
  have hk : k < 5 := (List.getElem?_eq_some_iff.1 h).1
  have hk : k = 0 ∨ k = 1 ∨ k = 2 ∨ k = 3 ∨ k = 4 := by omega
  rcases hk with rfl | rfl | rfl | rfl | rfl
  · simp [Sp.cuts] at h
    obtain ⟨rfl, rfl, rfl⟩ := h
    exact cut_index0 w
  · simp [Sp.cuts] at h
    obtain ⟨rfl, rfl, rfl⟩ := h
    exact cut_index1 w
  · simp [Sp.cuts] at h
    obtain ⟨rfl, rfl, rfl⟩ := h
    exact cut_index2 w
  · simp [Sp.cuts] at h
    obtain ⟨rfl, rfl, rfl⟩ := h
    exact cut_index3 w
  · simp [Sp.cuts] at h
    obtain ⟨rfl, rfl, rfl⟩ := h
    exact cut_index4 w

set_option maxRecDepth 100000 in
set_option maxHeartbeats 2000000 in
theorem rows_any (lo hi : Int) (w : World) :
    Calls Try.prog 6 #[.int .i64 lo, .int .i64 hi] w fun e w' => ∃ v gs, e = .returned v ∧ RowsO w' w.heap.size v gs (Sp.rows lo hi) ∧ Below w.heap.size w w' := by
  go_enter Try.func6, Try.ntmps6
  go_wp2_with fail
  have HB0 : Hid (∀ o, Below w.heap.size w (w.alloc o)) := fun o => (Below.refl _ _).alloc (Nat.le_refl _) o
  obtain ⟨w1, hw1⟩ : ∃ w1, w1 = w.alloc (.cells #[.int .i64 0, .int .i64 127, .int .i64 0, .int .i64 128, .int .i64 2047, .int .i64 1, .int .i64 2048, .int .i64 55295, .int .i64 2, .int .i64 57344, .int .i64 65535, .int .i64 2, .int .i64 65536, .int .i64 1114111, .int .i64 3] 45) := ⟨_, rfl⟩
  have HB1 : Hid (Below w.heap.size w w1) := by rw [hw1]; exact HB0.out _
  rw [← hw1]
  clear hw1 HB0
  go_loopg [6, 19] 5 (fun g v i wx => ∃ (k : Nat) (gs : List Nat), k ≤ 5 ∧ g = 5 - k ∧ i = .int .i64 k ∧ Hid (RowsO wx w.heap.size v gs ((Sp.upto lo hi k).map Sp.rowOf)) ∧ Hid (Below w.heap.size w wx))
  case atStart => exact ⟨0, [], by omega, rfl, rfl, RowsO.nil _ _, HB1⟩
  case round =>
    obtain ⟨k, gs, hk, rfl, rfl, hrows, hbel⟩ := hrel
    by_cases hlt : k < 5
    · have i1 : (k : Int) < 5 := by omega
      obtain ⟨f, l, tl, hcut, hin⟩ := Sp.cut_at k hlt
      have hix := cut_index k f l tl hcut
      obtain ⟨M, hM⟩ : ∃ M, M = min hi l := ⟨_, rfl⟩
      obtain ⟨C, hC⟩ : ∃ C, C = max lo f := ⟨_, rfl⟩
      have hmin : min hi l = M := hM.symm
      have hmin2 : min l hi = M := by rw [hM]; omega
      have hmax : max lo f = C := hC.symm
      have hmax2 : max f lo = C := by rw [hC]; omega
      have hf0 := (Sp.cut_small hin).2
      have htl := (Sp.cut_small hin).1
      have hl1 := Sp.cut_last hin
      have hCf : f ≤ C := by omega
      have hMl : M ≤ l := by omega
      have HUP := Lib.hid (Sp.upto_step lo hi k f l tl hcut)
      have HDL := Lib.hid (fun done rest => @Sp.done_len lo hi k f l tl hcut done rest)
      rw [← hM, ← hC] at HUP HDL
      have HIN := Lib.hid hin
      have HBS : Hid (w.heap.size ≤ wr.heap.size) := hbel.out.size
      have HROW := Lib.hid (hrows.out.alloc (.cells #[.int .i64 f, .int .i64 l, .int .i64 (tl : Int)] 44))
      have HBL : Hid (Below w.heap.size w (wr.alloc (.cells #[.int .i64 f, .int .i64 l, .int .i64 (tl : Int)] 44))) := hbel.out.alloc HBS.out _
      have HBK : Hid ((wr.alloc (.cells #[.int .i64 f, .int .i64 l, .int .i64 (tl : Int)] 44)).heap[wr.heap.size]? = some (.cells #[.int .i64 f, .int .i64 l, .int .i64 (tl : Int)] 44 (0, 0))) := Go.Deep.blk_alloc_new _ _
      clear hM hC hcut hin hrows hbel
      go_wp2_with fail
      clear hix hmin hmax hmin2 hmax2
      obtain ⟨b8, hb8⟩ : ∃ b, b = wr.heap.size := ⟨_, rfl⟩
      have HB8 : Hid (w.heap.size ≤ b8) := by show _ ≤ _; rw [hb8]; exact HBS.out
      rw [← hb8] at HBK ⊢
      clear hb8
      generalize wr.alloc (.cells #[.int .i64 f, .int .i64 l, .int .i64 (tl : Int)] 44) = W1 at *
      go_loopg [6, 10] (M + 1 - C).toNat (fun g v c wx => ∃ (vv : Value) (x : Int) (gs : List Nat) (done : List (Int × Int)), vv = v ∧ f ≤ x ∧ g = (M + 1 - x).toNat ∧ c = .int .i64 x ∧ Hid (Sp.segs C M tl = done ++ Sp.segs x M tl) ∧ Hid (RowsO wx w.heap.size v gs ((Sp.upto lo hi k ++ done).map Sp.rowOf)) ∧ Hid (Below w.heap.size w wx) ∧
        Hid (wx.heap[b8]? = some (.cells #[.int .i64 f, .int .i64 l, .int .i64 (tl : Int)] 44 (0, 0))))
      case atStart => exact ⟨_, C, gs, [], rfl, hCf, rfl, rfl, rfl, by rw [List.append_nil]; exact HROW.out, HBL, HBK⟩
      case round =>
        obtain ⟨vv, x, gs2, done, rfl, hfx, rfl, rfl, hseg, hrows, hbel, hblk⟩ := hrel
        by_cases hxM : x ≤ M
        · have hgd := (Sp.endOf_good x M f l tl htl (by omega) hfx hxM hMl)
          have hE := Lib.hid (endOf_any x M tl wr (by omega) hxM (by omega) htl)
          have hst := Sp.segs_step x M tl htl (by omega)
          rw [if_pos hxM] at hst
          obtain ⟨hg1, hg2⟩ := hgd
          have hle := hg1.le
          have HR := Lib.hid (rowOf_any x (Sp.endOf x M tl) f l tl _ HIN.out hg1)
          have hlen := HDL.out done (Sp.segs x M tl) hseg.out
          have HSEG : Hid (Sp.segs C M tl = (done ++ [(x, Sp.endOf x M tl)]) ++ Sp.segs (Sp.endOf x M tl + 1) M tl) := by
            show _ = _
            rw [List.append_assoc, List.singleton_append, ← hst]
            exact hseg.out
          have HLR : Hid ((Sp.rowOf (x, Sp.endOf x M tl)).length = tl + 1) := (Sp.row_good HIN.out hg1).len
          have c8 : wr.cell? ⟨b8, 2, none⟩ = some (.int .i64 (tl : Int)) := by simp [World.cell?, hblk.out]
          have HLEN : Hid (((Sp.upto lo hi k ++ done).map Sp.rowOf).length ≤ 20) := by show _ ≤ _; rw [List.length_map]; exact hlen
          clear hg1 hst hlen hseg
          generalize Sp.endOf x M tl = e at *
          go_wp2_with fail
          refine hE.out.mono ?_
          rintro e2 w2 ⟨rfl, rfl⟩
          go_wp2_with fail
          refine (HR.out wr).mono ?_
          rintro e2 w2 ⟨G, rfl, hG1, hG2, hG3⟩
          have HG1 : Hid (w.heap.size ≤ G) := Nat.le_trans hbel.out.size hG1
          have HG2 := Lib.hid hG2
          have HR2 := Lib.hid (hrows.out.below hG3)
          have HMS := Lib.hid (mem_snoc hrows.out hG1)
          have HB2 : Hid (Below w.heap.size w w2) := hbel.out.trans (hG3.mono hbel.out.size)
          have HK2 : Hid (w2.heap[b8]? = some (.cells #[.int .i64 f, .int .i64 l, .int .i64 (tl : Int)] 44 (0, 0))) := by
            have h8 := (Array.getElem?_eq_some_iff.1 hblk.out).1
            exact (hG3.block b8 h8).trans hblk.out
          clear hG1 hG2 hG3
          go_wp2_with (at_builtin; go_loud ((refine wpList_pushRow rfl _ _ rfl w.heap.size G (tl + 1) vv gs2 _ _ rfl HR2.out HB2.out.size HG2.out HG1.out HMS.out HLR.out rfl (by have := HLEN.out; omega) ?_)); intro v5 w5 hr5 hg5; have HR5 := Lib.hid hr5; have HG5 := Lib.hid hg5; clear hr5 hg5)
          have HK5 : Hid (w5.heap[b8]? = some (.cells #[.int .i64 f, .int .i64 l, .int .i64 (tl : Int)] 44 (0, 0))) := by
            have h8 := (Array.getElem?_eq_some_iff.1 HK2.out).1
            refine (HG5.out.block b8 (by simp; omega) (fun e => ?_)).trans ((Go.Deep.blk_alloc_lt _ _ _ h8).trans HK2.out)
            obtain ⟨_, _, c', fz', hc'⟩ := HR2.out.kind b8 e.symm
            exact kinds_neY HK2.out hc' (by decide) rfl
          have HB5 : Hid (Below w.heap.size w w5) := (HB2.out.alloc HB2.out.size _).grown HG5.out (by have := HB2.out.size; simp; omega) (fun j hj => (HR2.out.kind j hj).1)
          go_roundg (M + 1 - (e + 1)).toNat
          case rel => exact ⟨_, e + 1, _, _, rfl, by omega, rfl, by go_num, HSEG, by show RowsO _ _ _ _ _; simpa using HR5.out, HB5, HK5⟩
          case measure => omega
        · have hst := Sp.segs_step x M tl htl (by omega)
          rw [if_neg hxM] at hst
          have HU : Hid (Sp.upto lo hi (k + 1) = Sp.upto lo hi k ++ done) := by
            show _ = _
            rw [HUP.out, hseg.out, hst, List.append_nil]
          clear hst
          go_wp2_with fail
          go_roundg (5 - (k + 1))
          case rel => exact ⟨k + 1, gs2, by omega, rfl, by go_num, by rw [HU.out]; exact hrows, hbel⟩
          case measure => omega
    · obtain rfl : k = 5 := by omega
      go_wp2_with fail
      go_ret
      exact ⟨_, gs, rfl, hrows.out, hbel.out⟩
end Go.Proofs.Ytmpjhbbcfnffhaa
