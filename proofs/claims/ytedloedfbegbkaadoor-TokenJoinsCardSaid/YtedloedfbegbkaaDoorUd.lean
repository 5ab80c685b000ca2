/-
  What Decode answers: the characters of all bytes, in new memory, or the refusal.
-/
import Derived.Test.YtedloedfbegbkaaDoorUe
import Derived.Test.YtedloedfbegbkaaDoorMn
namespace Go.Proofs.YtedloedfbegbkaaDoor
open Go.RowKit

namespace Ut
open Go.Lib
/-- The characters of bytes, where there are such. -/
def decS (l : List UInt8) : List Int := if validD l = true then dec l else []
def decE (l : List UInt8) : Int := if validD l = true then 0 else 7
theorem decS_yes {l : List UInt8} (h : validD l = true) : decS l = dec l := if_pos h
theorem decE_yes {l : List UInt8} (h : validD l = true) : decE l = 0 := if_pos h
theorem decS_no {l : List UInt8} (h : validD l = false) : decS l = [] := if_neg (by rw [h]; exact Bool.false_ne_true)
theorem decE_no {l : List UInt8} (h : validD l = false) : decE l = 7 := if_neg (by rw [h]; exact Bool.false_ne_true)
theorem decS_length (l : List UInt8) : (decS l).length ≤ l.length := by
  unfold decS
  split
  · exact dec_length _ _
  · simp
end Ut

/-- The library's own tables, as its text lays them. -/
def Tabs (w : World) : Prop := Lib.Utf8Tabs 0 1 w
theorem Tabs.below {w w' : World} (h : Tabs w) (hb : Below w.heap.size w w') : Tabs w' := Utf8Tabs_below h hb

/-- What Decode answers. -/
def DecPost (w : World) (s : List UInt8) (e : Ending) (w' : World) : Prop :=
  ∃ v, e = .returned (.tuple #[v, .int .i64 (Ut.decE s)]) ∧ OwnI w' w.heap.size v (Ut.decS s) ∧ Below w.heap.size w w'
theorem made_ownI (w : World) (B n : Nat) (hB : B ≤ w.heap.size) (hn : n ≤ 17592186044416) :
    OwnI (w.alloc (.cells (madeCells #[.int .i64 0] n) 3)) B (.slice (some ⟨w.heap.size, 0, none⟩) 0 n) [] :=
  World.ownsRow_made w (madeCells #[.int .i64 0] n) n hB (by unfold maxLen; omega) (by rw [size_madeCells, Nat.mul_one])
theorem makeI (n : Nat) (hn : n ≤ 17592186044416) (w : World) :
    (Instr.makeSlice 32 (.int .i64 0) (.int .i64 (n : Int))).run Tryd.prog w = .ok (.slice (some ⟨w.heap.size, 0, none⟩) 0 n) (w.alloc (.cells (madeCells #[.int .i64 0] n) 3)) := by
  obtain ⟨ii, hi, hz0, hz1, hz2⟩ := info_parts Tryd.infoI
  have h := run_make (P := Tryd.prog) w 32 3 ii (.int .i64 0) Tryd.underlying32 hi hz0 .i64 .i64 0 (n : Int) (by omega) (by omega) (by rw [hz2]; omega) (by omega)
  rw [hz1, Int.toNat_natCast, Nat.mul_one] at h
  exact h
theorem ret_vi {v : Value} {a b : Int} (h2 : a = b) : Ending.returned (.tuple #[v, .int .i64 a]) = Ending.returned (.tuple #[v, .int .i64 b]) := by rw [h2]

set_option maxRecDepth 100000 in
set_option maxHeartbeats 2000000 in
theorem decode_any (w : World) (s : ByteArray) (hT : Tabs w) (hs : s.size ≤ 17592186044416) :
    Calls Tryd.prog 16 #[.string s] w (DecPost w s.data.toList) := by
  have hval := Lib.hid (Tryd.utf8_ValidString s w (by omega) hT)
  have hcnt := Lib.hid (fun w' => Tryd.utf8_RuneCountInString s w' (by omega))
  have hrc : Lib.runeCount s ≤ s.size := Lib.runeCount_le s
  generalize Lib.runeCount s = n at *
  cases hv : Lib.validD s.data.toList
  · rw [hv] at hval
    have h1 := Lib.hid (Ut.decS_no hv)
    have h2 := Lib.hid (Ut.decE_no hv)
    clear hv hT
    go_enter Tryd.func16, Tryd.ntmps16
    go_wp2_with fail
    refine hval.out.mono ?_
    rintro e w1 ⟨rfl, hb⟩
    have HB := Lib.hid hb
    clear hb
    go_wp2_with fail
    go_ret2
    exact ⟨_, ret_vi (by rw [h2.out]), by rw [h1.out]; exact World.ownsRow_nil _ _ _ _, HB.out⟩
  · rw [hv] at hval
    have h1 := Lib.hid (Ut.decS_yes hv)
    have h2 := Lib.hid (Ut.decE_yes hv)
    have HV := Lib.hid hv
    have hmk := makeI n (by omega)
    clear hv hT
    go_enter Tryd.func16, Tryd.ntmps16
    go_wp2_with fail
    refine hval.out.mono ?_
    rintro e w1 ⟨rfl, hb⟩
    have HB := Lib.hid hb
    clear hb hval
    go_wp2_with fail
    refine (hcnt.out w1).mono ?_
    rintro e w2 ⟨rfl, p2, hw2⟩
    have HB2 : Hid (Below w.heap.size w w2) := by
      rw [hw2]
      exact HB.out.alloc HB.out.size _
    clear hw2 HB hcnt
    go_wp2_with fail
    have HO : Hid (OwnI (w2.alloc (.cells (madeCells #[.int .i64 0] n) 3)) w.heap.size (.slice (some ⟨w2.heap.size, 0, none⟩) 0 n) []) := made_ownI w2 w.heap.size n HB2.out.size (by omega)
    have HB3 : Hid (Below w.heap.size w (w2.alloc (.cells (madeCells #[.int .i64 0] n) 3))) := HB2.out.alloc HB2.out.size _
    have hz3 : w2.heap.size + 1 = (w2.alloc (.cells (madeCells #[.int .i64 0] n) 3)).heap.size := by simp
    generalize w2.alloc (.cells (madeCells #[.int .i64 0] n) 3) = w3 at *
    clear hmk HB2
    generalize w2.heap.size + 1 = K at *
    have HK := Lib.hid hz3
    clear hz3
    go_loopg [4] s.size (fun g v wx => ∃ (pos : Nat) (acc : List Int), g = s.size - pos ∧ pos ≤ s.size ∧ acc.length ≤ pos ∧ wx.heap[K]? = some (.stringIter s pos) ∧ OwnI wx w.heap.size v acc ∧ Below w.heap.size w wx ∧
      Hid (Lib.validD (s.data.toList.drop pos) = true) ∧ Hid (acc ++ Ut.dec (s.data.toList.drop pos) = Ut.dec s.data.toList))
    case atStart =>
      refine ⟨0, [], rfl, Nat.zero_le _, Nat.le_refl _, ?_, ?_, ?_, HV.out, rfl⟩
      · rw [HK.out]; exact World.iter_heap w3 s 0
      · exact HO.out.keep ((Below.refl w3.heap.size w3).alloc (Nat.le_refl _) _) (Nat.le_refl _)
      · exact HB3.out.alloc HB3.out.size _
    case round =>
      obtain ⟨pos, acc, rfl, hp, hal, hit, hown, hbel, hvd, hdec⟩ := hrel
      obtain ⟨ad, cp, rfl, _⟩ := ownI_cells hown
      have hKs : w.heap.size ≤ K := by rw [HK.out]; exact HB3.out.size
      have hKr : K < wr.heap.size := (Array.getElem?_eq_some_iff.1 hit).1
      by_cases hps : pos < s.size
      · have hne : s.data.toList.drop pos ≠ [] := by
          intro h
          have := congrArg List.length h
          rw [List.length_drop] at this
          simp at this
          omega
        have hgood : ¬ Ut.Bad (s.data.toList.drop pos) := fun hb => by
          have := Ut.validD_bad _ hne hb
          rw [hvd.out] at this
          cases this
        have hvs := Ut.validD_good _ hne hgood
        have hds := Ut.dec_step _ hne
        have hle := Lib.decodeL_le _ hne
        have hw1 := Lib.decodeL_width (s.data.toList.drop pos)
        have hrn := Lib.decodeL_rune (s.data.toList.drop pos)
        rw [List.length_drop] at hle
        have hsl : s.data.toList.length = s.size := by simp
        rw [hsl] at hle
        have hnx : ∀ ty, (Instr.next (.pointer (some ⟨K, 0, none⟩)) true ty).run Tryd.prog wr = _ := fun ty => Lib.run_next_any_at wr K s pos ty hit hps
        rw [← Lib.decodeL_drop] at hnx
        have hit2 := Lib.iterAt_heap wr K s pos (pos + (Lib.decodeL (s.data.toList.drop pos)).2) hit
        have hown2 := hown.iterAt hit (pos + (Lib.decodeL (s.data.toList.drop pos)).2)
        have hbel2 := below_iterAt (s := s) hbel hKs (pos + (Lib.decodeL (s.data.toList.drop pos)).2)
        rw [List.drop_drop] at hvs hds
        generalize hwd : (Lib.decodeL (s.data.toList.drop pos)).2 = wd at *
        generalize hru : (Lib.decodeL (s.data.toList.drop pos)).1 = ru at *
        have hsz2 : (wr.iterAt K s (pos + wd)).heap.size = wr.heap.size := by simp [World.iterAt]
        rw [← hsz2] at hKr
        have hv2 : Hid (Lib.validD (s.data.toList.drop (pos + wd)) = true) := by show _ = _; rw [← hvs]; exact hvd.out
        have hd2 : Hid ((acc ++ [(ru : Int)]) ++ Ut.dec (s.data.toList.drop (pos + wd)) = Ut.dec s.data.toList) := by
          show _ = _
          rw [← hdec.out, hds, List.append_assoc]
          rfl
        have H2 := Lib.hid (And.intro hit2 (And.intro hown2 hbel2))
        have hne2 := Lib.hid (hown2.ne_iter hit2)
        have HBX := Lib.hid hbel2.size
        clear hgood hvs hds hne hown hbel hit hvd hdec hit2 hown2 hbel2 hsl hsz2 hwd hru
        generalize wr.iterAt K s (pos + wd) = wy at *
        go_wp2_with (at_builtin; go_loud ((refine wpList_pushI rfl _ _ rfl w.heap.size HBX.out (.slice ad acc.length cp) acc (ru : Int) rfl H2.out.2.1 rfl (by omega) ?_; intro v5 w5 hown5 hb5 hg5)))
        have hit5 : w5.heap[K]? = some (.stringIter s (pos + wd)) := by
          rw [hg5.block K (by simp; omega) (fun h => hne2.out K h.symm rfl)]
          exact (heap_alloc_old wy _ hKr).trans H2.out.1
        have H5 := Lib.hid (And.intro hit5 (And.intro hown5 (H2.out.2.2.trans hb5)))
        clear hit5 hown5 hb5 hg5
        go_wp2_with fail
        go_roundg (s.size - (pos + wd))
        case rel => exact ⟨pos + wd, acc ++ [(ru : Int)], rfl, by omega, by simp; omega, H5.out.1, H5.out.2.1, H5.out.2.2, hv2, hd2⟩
        case measure => omega
      · have hnx : ∀ ty, (Instr.next (.pointer (some ⟨K, 0, none⟩)) true ty).run Tryd.prog wr = _ := fun ty => Lib.run_next_end_at wr K s pos ty hit hps
        have hfin : acc = Ut.dec s.data.toList := by
          rw [← hdec.out, List.drop_of_length_le (by simp; omega), Ut.dec_nil, List.append_nil]
        have H5 := Lib.hid (And.intro hown hbel)
        have HF := Lib.hid hfin
        clear hown hbel hit hvd hdec hfin
        go_wp2_with fail
        go_ret2
        exact ⟨_, ret_vi (by rw [h2.out]), by rw [h1.out, ← HF.out]; exact H5.out.1, H5.out.2⟩
end Go.Proofs.YtedloedfbegbkaaDoor
