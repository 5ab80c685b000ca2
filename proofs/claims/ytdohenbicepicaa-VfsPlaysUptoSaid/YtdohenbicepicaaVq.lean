/-
  What the given disk's New, Arm, SyncDir and List do.
-/
import Derived.Test.YtdohenbicepicaaVp
import Derived.Laws.AppendOwnNone
namespace Go.Proofs.Ytdohenbicepicaa
open Go.RowKit

set_option maxHeartbeats 400000 in
theorem newR_any (w : World) :
    Calls Try.prog 10 #[] w fun e' w' => e' = .returned (.pointer (some ⟨w.heap.size, 0, none⟩)) ∧ RefA w' w.heap.size (.slice none 0 0) (.slice none 0 0) (.slice none 0 0) Vf.new ∧ Below w.heap.size w w' := by
  go_enter Try.func10, Try.ntmps10
  go_wp2_with fail
  go_ret
  refine ⟨rfl, ⟨heap_alloc_new _ _, World.ownsRow_nil _ _ _ _, World.ownsRow_nil _ _ _ _, World.ownsRow_nil _ _ _ _, by simp [Value.ownBlock], by simp [Value.ownBlock], by simp [Value.ownBlock], fun k hk => by simp [Value.ownBlock] at hk⟩, (Below.refl _ _).alloc (Nat.le_refl _) _⟩

set_option maxHeartbeats 1000000 in
theorem armR_any (w : World) (b : Nat) (vf vn vk : Value) (D : Vf.Dk) (n e : Int) (h : RefA w b vf vn vk D) :
    Calls Try.prog 34 #[.pointer (some ⟨b, 0, none⟩), .int .i64 n, .int .i64 e] w (OpPost w b vf vn vk (Vf.arm D n e)) := by
  have c5 : w.cell? ⟨b, 5, none⟩ = some (.int .i64 D.armed) := h.row.cell 5
  have c6 : w.cell? ⟨b, 6, none⟩ = some (.int .i64 D.fault) := h.row.cell 6
  have f5 := h.row.frozen 5
  have f6 := h.row.frozen 6
  have H := Lib.hid h
  have HN : Hid (RefA ((w.setCell ⟨b, 5, none⟩ (.int .i64 n)).setCell ⟨b, 6, none⟩ (.int .i64 e)) b vf vn vk { D with armed := n, fault := e }) := by
    refine h.turn ((h.row.set 5 _).set 6 _) (fun k hk => ?_) rfl rfl rfl
    rw [heap_other _ _ _ _ _ hk, heap_other _ _ _ _ _ hk]
  have HK : Hid (KeptF (fun k => k = b) w ((w.setCell ⟨b, 5, none⟩ (.int .i64 n)).setCell ⟨b, 6, none⟩ (.int .i64 e))) := ((KeptF.refl (fun k => k = b) w).set b _ rfl _).set b _ rfl _
  obtain ⟨R, hR⟩ : ∃ R, R = Vf.arm D n e := ⟨_, rfl⟩
  rw [← hR]
  unfold Vf.arm at hR
  clear h
  generalize D.armed = ar at *
  generalize D.fault = fl at *
  by_cases hn : n < 0
  · rw [if_pos (.inl hn)] at hR
    subst hR
    clear HN HK
    go_enter Try.func34, Try.ntmps34
    go_wp2_with fail
    go_ret
    exact OpPost.same H.out (kept_refl _ _)
  · by_cases h14 : e = 14
    · rw [if_neg (by omega)] at hR
      subst hR
      have e14 : (e != 14) = false := by simp [h14]
      clear h14
      go_enter Try.func34, Try.ntmps34
      go_wp2_with fail
      go_ret
      exact OpPost.same HN.out HK.out
    · have e14 : (e != 14) = true := by simp [h14]
      by_cases h13 : e = 13
      · rw [if_neg (by omega)] at hR
        subst hR
        have e13 : (e != 13) = false := by simp [h13]
        clear h13 h14
        go_enter Try.func34, Try.ntmps34
        go_wp2_with fail
        go_ret
        exact OpPost.same HN.out HK.out
      · have e13 : (e != 13) = true := by simp [h13]
        by_cases h15 : e = 15
        · rw [if_neg (by omega)] at hR
          subst hR
          have e15 : (e != 15) = false := by simp [h15]
          clear h13 h14 h15
          go_enter Try.func34, Try.ntmps34
          go_wp2_with fail
          go_ret
          exact OpPost.same HN.out HK.out
        · have e15 : (e != 15) = true := by simp [h15]
          rw [if_pos (.inr ⟨h14, h13, h15⟩)] at hR
          subst hR
          clear h13 h14 h15 HN HK
          go_enter Try.func34, Try.ntmps34
          go_wp2_with fail
          go_ret
          exact OpPost.same H.out (kept_refl _ _)

/-- Texts as cells. -/
def strsV (l : List ByteArray) : List Value := l.map (fun s => .string s)
def OwnS (w : World) (B : Nat) (v : Value) (l : List ByteArray) : Prop := w.ownsRow B 9 1 v l.length (strsV l)
theorem Try.infoS : (Try.prog.info? 9).map (fun i => (i.zero, i.size, i.bytes)) = some (some (.string ByteArray.empty), 1, 16) := by kernel_rfl
theorem ownS_push {w wr w1 : World} {B : Nat} {v v' : Value} {l : List ByteArray} {c : ByteArray} {o : Obj} (hB : B ≤ wr.heap.size) (h : OwnS wr B v l) (hb : Below B w wr)
    (h1 : w1.ownsRow B 9 1 v' (l.length + 1) (strsV l ++ [.string c])) (hg : (wr.alloc o).grownBy w1 v.ownBlock) :
    OwnS w1 B v' (l ++ [c]) ∧ Below B w w1 ∧ B ≤ w1.heap.size := by
  have hown : wr.ownsRow B 9 1 v l.length (strsV l) := h
  have hs : B ≤ w1.heap.size := by have := hg.size; simp at this; omega
  refine ⟨?_, (hb.alloc hB o).grown hg (by simp; omega) (fun j hj => (hown.lt j hj).1), hs⟩
  unfold OwnS
  rw [show strsV l ++ [Value.string c] = strsV (l ++ [c]) from by simp [strsV]] at h1
  simpa using h1

set_option maxRecDepth 100000 in
set_option maxHeartbeats 2000000 in
theorem listR_any (w : World) (b : Nat) (vf vn vk : Value) (D : Vf.Dk) (h : RefA w b vf vn vk D) (hn : D.names.length ≤ 1073741824) :
    Calls Try.prog 39 #[.pointer (some ⟨b, 0, none⟩)] w fun e' w' => ∃ v', e' = .returned v' ∧ OwnS w' w.heap.size v' (Vf.list D) ∧ Below w.heap.size w w' := by
  obtain ⟨ii, hi, hz0, hz1, hz2⟩ := info_parts Try.infoS
  obtain ⟨R, hR⟩ : ∃ R, R = Vf.list D := ⟨_, rfl⟩
  rw [← hR]
  unfold Vf.list at hR
  have hrow := h.row
  have hbl := h.row.lt
  have c7 : w.cell? ⟨b, 7, none⟩ = some (.bool D.down) := hrow.cell 7
  have c1 : w.cell? ⟨b, 1, none⟩ = some vn := hrow.cell 1
  obtain ⟨a, cap, rfl, _, _, hv⟩ := OwnK.lks h.names
  have HV := Lib.hid hv
  clear hv hrow h
  generalize D.names = l at *
  obtain ⟨n, hnl⟩ : ∃ n, n = l.length := ⟨_, rfl⟩
  have HN := Lib.hid hnl
  rw [← hnl] at c1 hn
  clear hnl
  cases hdn : D.down with
  | true =>
    rw [hdn] at c7 hR
    rw [if_pos rfl] at hR
    subst hR
    go_enter Try.func39, Try.ntmps39
    go_wp2_with fail
    refine wp_loop_rounds 1 ?_
    rw [rounds_succ]
    by_cases h0 : 0 < n
    · have i0 : (0 : Int) < (n : Int) := by omega
      go_wp2_with fail
      go_ret
      exact ⟨_, rfl, World.ownsRow_nil _ _ _ _, Below.refl _ _⟩
    · obtain rfl : n = 0 := by omega
      go_wp2_with fail
      go_ret
      exact ⟨_, rfl, World.ownsRow_nil _ _ _ _, Below.refl _ _⟩
  | false =>
    rw [hdn] at c7 hR
    simp only [Bool.false_eq_true, if_false] at hR
    have HRR : Hid (R = (l.take n).map (·.name)) := by show _ = _; rw [List.take_of_length_le (by rw [HN.out]; exact Nat.le_refl _)]; exact hR
    clear hR
    go_enter Try.func39, Try.ntmps39
    go_wp2_with fail
    go_loopg [3, 4] n (fun g ov iv wx => ∃ k : Nat, k ≤ n ∧ g = n - k ∧ iv = .int .i64 (k : Int) ∧ OwnS wx w.heap.size ov ((l.take k).map (·.name)) ∧ Below w.heap.size w wx ∧ w.heap.size ≤ wx.heap.size)
    case atStart => exact ⟨0, Nat.zero_le _, rfl, rfl, World.ownsRow_nil _ _ _ _, Below.refl _ _, Nat.le_refl _⟩
    case round =>
      obtain ⟨k, hk, rfl, rfl, hown, hbel, hBr⟩ := hrel
      have k1 : wr.cell? ⟨b, 1, none⟩ = some (.slice a n cap) := (hbel.cell (p := ⟨b, 1, none⟩) hbl).trans c1
      have k7 : wr.cell? ⟨b, 7, none⟩ = some (.bool false) := (hbel.cell (p := ⟨b, 7, none⟩) hbl).trans c7
      by_cases hkn : k < n
      · have i1 : (k : Int) < (n : Int) := by omega
        have kl : k < l.length := by rw [← HN.out]; exact hkn
        obtain ⟨g, rfl, hg, hc⟩ := HV.out (by omega)
        have k2 : wr.cell? ⟨g, k * 2, none⟩ = some (.string l[k].name) := (hbel.cell (p := ⟨g, k * 2, none⟩) hg).trans (hc k kl).1
        have hst : Hid ((l.take (k + 1)).map (·.name) = (l.take k).map (·.name) ++ [l[k].name]) := by
          show _ = _
          rw [List.take_succ_eq_append_getElem kl, List.map_append]
          rfl
        have hln : ((l.take k).map (·.name)).length ≤ k := by rw [List.length_map, List.length_take]; omega
        clear hc c1 c7
        generalize (l.take k).map (·.name) = acc at *
        generalize l[k].name = nm at *
        have hown' : wr.ownsRow w.heap.size 9 1 u3 acc.length (strsV acc) := hown
        have HO := Lib.hid hown
        have HB := Lib.hid hbel
        clear hown hbel
        go_wp2_with (at_builtin; refine wpList_append_own _ rfl _ _ 47 rfl w.heap.size 9 ii _ 1 16 Try.underlying47 hi hz0 hz1 hz2 rfl (by decide) _ _ _ rfl (hown'.alloc _) ⟨wr.heap.size, 0, none⟩ 1 1 [.string nm] rfl rfl ?c1 ?c2 ?c3 ?c4 ?c5 ?_)
        case c1 =>
          intro j u hj
          match j, hj with
          | 0, hj => simp at hj; subst hj; simp [Addr.add]
        case c2 => intro u hu; simp at hu; subst hu; rfl
        case c3 => unfold maxLen; omega
        case c4 => omega
        case c5 => simp; omega
        · intro v' w2 hown1 hgrow _
          have R := ownS_push hBr HO.out HB.out hown1 hgrow
          rw [← hst.out] at R
          have HR := Lib.hid R
          clear hown1 hgrow HO hown' HB R hst
          go_wp2
          go_roundg (n - (k + 1))
          case rel => exact ⟨k + 1, by omega, rfl, by go_num, HR.out.1, HR.out.2.1, HR.out.2.2⟩
          case measure => omega
      · obtain rfl : k = n := by omega
        have HO := Lib.hid hown
        have HB := Lib.hid hbel
        clear hown hbel c1 c7
        go_wp2_with fail
        go_ret
        exact ⟨_, rfl, by rw [HRR.out]; exact HO.out, HB.out⟩
end Go.Proofs.Ytdohenbicepicaa
