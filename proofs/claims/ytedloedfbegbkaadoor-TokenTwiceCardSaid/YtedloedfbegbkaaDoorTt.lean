/-
  The term of letters: their bytes, folded, or the refusal.
-/
import Derived.Test.YtedloedfbegbkaaDoorTl
import Derived.Test.YtedloedfbegbkaaDoorUg
namespace Go.Proofs.YtedloedfbegbkaaDoor
open Go.RowKit

namespace Ut
def trmE (xs : List Int) : Int := if short (term xs) = true then 0 else 4
def trmS (xs : List Int) : List UInt8 := if short (term xs) = true then term xs else []
end Ut

set_option maxRecDepth 100000 in
set_option maxHeartbeats 1000000 in
theorem termOf_any (w : World) (v : Value) (xs : List Int) (hv : IntS w v xs) (hx : xs.length ≤ 1048576) (hw : Ut.allW (xs.map Ut.fold) = true) :
    Calls Tryd.prog 18 #[v] w fun e w' => e = .returned (.tuple #[.string ⟨(Ut.trmS xs).toArray⟩, .int .i64 (Ut.trmE xs)]) ∧ Below w.heap.size w w' := by
  have hF := Lib.hid (foldedOf_any w v xs hv (by omega))
  have hE : Hid (∀ (W : World) u, OwnI W w.heap.size u (xs.map Ut.fold) → Calls Tryd.prog 15 #[u] W fun e w' => e = .returned (.tuple #[.string ⟨(Ut.term xs).toArray⟩, .int .i64 0]) ∧ Below W.heap.size W w') := fun W u hu => by
    have h := encode_any W u _ (hu.ints (by rw [List.length_map]; omega)) (by rw [List.length_map]; omega)
    unfold EncPost at h
    rw [Ut.encS_yes hw, Ut.encE_yes hw] at h
    exact h
  have hs : Hid (Ut.short (Ut.term xs) = decide ((⟨(Ut.term xs).toArray⟩ : ByteArray).size ≤ 64)) := by show _ = _; rw [mk_size]; rfl
  have h1 : Hid (Ut.trmE xs = if Ut.short (Ut.term xs) = true then 0 else 4) := rfl
  have h2 : Hid (Ut.trmS xs = if Ut.short (Ut.term xs) = true then Ut.term xs else []) := rfl
  have hz : (⟨(Ut.term xs).toArray⟩ : ByteArray).size ≤ 4194304 := by
    rw [mk_size]
    have := (Ut.enc_length (xs.map Ut.fold)).2
    rw [List.length_map] at this
    unfold Ut.term
    omega
  generalize Ut.term xs = T at *
  generalize hTB : (⟨T.toArray⟩ : ByteArray) = TB at *
  have HTB := Lib.hid hTB
  clear hTB hv hw
  go_enter Tryd.func18, Tryd.ntmps18
  go_wp2_with fail
  refine hF.out.mono ?_
  rintro e w1 ⟨v1, rfl, hown, hb1⟩
  have HO := Lib.hid hown
  have HB1 := Lib.hid hb1
  clear hown hb1 hF
  go_wp2_with fail
  refine (hE.out w1 v1 HO.out).mono ?_
  rintro e w2 ⟨rfl, hb2⟩
  have HB2 : Hid (Below w.heap.size w w2) := HB1.out.trans (hb2.mono HB1.out.size)
  clear hb2 hE
  by_cases hl : TB.size ≤ 64
  · have i1 : ¬ (64 : Int) < (TB.size : Int) := by omega
    have hd : Hid (Ut.short T = true) := by show _ = _; rw [hs.out]; exact decide_eq_true hl
    go_wp2_with fail
    go_ret2
    exact ⟨ret_si (by rw [h2.out, if_pos hd.out]; exact HTB.out.symm) (by rw [h1.out, if_pos hd.out]), HB2.out⟩
  · have i1 : (64 : Int) < (TB.size : Int) := by omega
    have hd : Hid (¬ Ut.short T = true) := by show ¬ _; rw [hs.out, decide_eq_true_iff]; exact hl
    go_wp2_with fail
    go_ret2
    exact ⟨ret_si (by rw [h2.out, if_neg hd.out]) (by rw [h1.out, if_neg hd.out]), HB2.out⟩
end Go.Proofs.YtedloedfbegbkaaDoor
