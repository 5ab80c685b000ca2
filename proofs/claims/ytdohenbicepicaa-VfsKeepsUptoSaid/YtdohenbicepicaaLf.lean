/-
  What was synced survives every loss: the walk of the statement VfsKeeps (made by gen_xlf.py).
-/
import Derived.Test.YtdohenbicepicaaLc
import Derived.Test.YtdohenbicepicaaVj
import Derived.OpenShut
namespace Go.Proofs.Ytdohenbicepicaa
open Go.RowKit Go.Maps

namespace Kp
abbrev sB : ByteArray := ⟨#[98]⟩
abbrev sC : ByteArray := ⟨#[99]⟩
abbrev sE : ByteArray := ⟨#[101]⟩
theorem okB : Vf.okN sB = true := by decide
theorem okC : Vf.okN sC = true := by decide
theorem okE : Vf.okN sE = true := by decide
theorem app_empty (s : ByteArray) : s ++ ByteArray.empty = s := by simp
theorem nAB : Vf.eqB sA sB = false := Vf.eqB_ne (by decide)
theorem nAC : Vf.eqB sA sC = false := Vf.eqB_ne (by decide)
theorem nAE : Vf.eqB sA sE = false := Vf.eqB_ne (by decide)
theorem nBA : Vf.eqB sB sA = false := Vf.eqB_ne (by decide)
theorem nCA : Vf.eqB sC sA = false := Vf.eqB_ne (by decide)
theorem nCB : Vf.eqB sC sB = false := Vf.eqB_ne (by decide)
theorem nBC : Vf.eqB sB sC = false := Vf.eqB_ne (by decide)
theorem nEB : Vf.eqB sE sB = false := Vf.eqB_ne (by decide)
theorem nEA : Vf.eqB sE sA = false := Vf.eqB_ne (by decide)
theorem nBE : Vf.eqB sB sE = false := Vf.eqB_ne (by decide)
theorem nCE : Vf.eqB sC sE = false := Vf.eqB_ne (by decide)
theorem nEC : Vf.eqB sE sC = false := Vf.eqB_ne (by decide)
theorem lBA : Vf.ltB sB sA = false := by rw [Bool.eq_false_iff]; intro h; exact absurd (Vf.ltB_iff.1 h) (by decide)
theorem lCA : Vf.ltB sC sA = false := by rw [Bool.eq_false_iff]; intro h; exact absurd (Vf.ltB_iff.1 h) (by decide)
theorem lEA : Vf.ltB sE sA = false := by rw [Bool.eq_false_iff]; intro h; exact absurd (Vf.ltB_iff.1 h) (by decide)
theorem lEC : Vf.ltB sE sC = false := by rw [Bool.eq_false_iff]; intro h; exact absurd (Vf.ltB_iff.1 h) (by decide)
def K1 : Vf.Dk := ⟨[⟨1, ByteArray.empty, 0⟩], [⟨sA, 1⟩], [], 1, 1, -1, 0, false⟩
def K2 (d : ByteArray) : Vf.Dk := ⟨[⟨1, d, 0⟩], [⟨sA, 1⟩], [], 1, 2, -1, 0, false⟩
def K3 (d : ByteArray) : Vf.Dk := ⟨[⟨1, d, d.size⟩], [⟨sA, 1⟩], [], 1, 3, -1, 0, false⟩
def K4 (d : ByteArray) : Vf.Dk := ⟨[⟨1, d, d.size⟩, ⟨2, ByteArray.empty, 0⟩], [⟨sA, 1⟩, ⟨sB, 2⟩], [], 2, 4, -1, 0, false⟩
def K5 (d : ByteArray) : Vf.Dk := ⟨[⟨1, d, d.size⟩, ⟨2, d, 0⟩], [⟨sA, 1⟩, ⟨sB, 2⟩], [], 2, 5, -1, 0, false⟩
def K6 (d : ByteArray) : Vf.Dk := ⟨[⟨1, d, d.size⟩, ⟨2, d, d.size⟩], [⟨sA, 1⟩, ⟨sB, 2⟩], [], 2, 6, -1, 0, false⟩
def K7 (d : ByteArray) : Vf.Dk := ⟨[⟨1, d, d.size⟩, ⟨2, d, d.size⟩], [⟨sA, 1⟩, ⟨sB, 2⟩], [⟨sA, 1⟩, ⟨sB, 2⟩], 2, 7, -1, 0, false⟩
def K8 (d e : ByteArray) : Vf.Dk := ⟨[⟨1, d ++ e, d.size⟩, ⟨2, d, d.size⟩], [⟨sA, 1⟩, ⟨sB, 2⟩], [⟨sA, 1⟩, ⟨sB, 2⟩], 2, 8, -1, 0, false⟩
def K9 (d e : ByteArray) : Vf.Dk := ⟨[⟨1, d ++ e, d.size⟩, ⟨2, d, d.size⟩], [⟨sA, 1⟩, ⟨sC, 2⟩], [⟨sA, 1⟩, ⟨sB, 2⟩], 2, 9, -1, 0, false⟩
def K10 (d e : ByteArray) : Vf.Dk := ⟨[⟨1, d ++ e, d.size⟩, ⟨2, d, d.size⟩, ⟨3, ByteArray.empty, 0⟩], [⟨sA, 1⟩, ⟨sC, 2⟩, ⟨sE, 3⟩], [⟨sA, 1⟩, ⟨sB, 2⟩], 3, 10, -1, 0, false⟩
def K11 (d e : ByteArray) : Vf.Dk := ⟨[⟨1, d ++ e, d.size⟩, ⟨2, d, d.size⟩, ⟨3, e, 0⟩], [⟨sA, 1⟩, ⟨sC, 2⟩, ⟨sE, 3⟩], [⟨sA, 1⟩, ⟨sB, 2⟩], 3, 11, -1, 0, false⟩
theorem m1 : (-1 : Int) ≠ 0 := by decide
theorem k1 : Vf.create Vf.new sA = (0, K1) := (Vf.create_ok rfl m1 okA).trans rfl
theorem k2 (d : ByteArray) : Vf.append K1 sA d = (0, K2 d) := by
  refine (Vf.change_ok rfl m1 okA (find1 sA 1) (by decide)).trans ?_
  show (0, Vf.Dk.mk [Vf.chg ⟨1, ByteArray.empty, 0⟩ d false] _ _ _ _ _ _ _) = _
  unfold Vf.chg
  simp only [empty_app]
  rfl
theorem k3 (d : ByteArray) : Vf.sync (K2 d) sA = (0, K3 d) := by
  refine (Vf.change_ok rfl m1 okA (find1 sA 1) (by decide)).trans ?_
  show (0, Vf.Dk.mk [Vf.chg ⟨1, d, 0⟩ ByteArray.empty true] _ _ _ _ _ _ _) = _
  unfold Vf.chg
  simp only [app_empty, if_true]
  rfl
theorem link_b : Vf.link [⟨sA, 1⟩] sB 2 = [⟨sA, 1⟩, ⟨sB, 2⟩] := by unfold Vf.link; simp [Vf.linkGo, nAB, lBA]
theorem link_b0 : Vf.link [⟨sA, 1⟩, ⟨sB, 2⟩] sB 0 = [⟨sA, 1⟩] := by unfold Vf.link; simp [Vf.linkGo, nAB, Vf.eqB_self]
theorem link_c : Vf.link [⟨sA, 1⟩] sC 2 = [⟨sA, 1⟩, ⟨sC, 2⟩] := by unfold Vf.link; simp [Vf.linkGo, nAC, lCA]
theorem link_e : Vf.link [⟨sA, 1⟩, ⟨sC, 2⟩] sE 3 = [⟨sA, 1⟩, ⟨sC, 2⟩, ⟨sE, 3⟩] := by unfold Vf.link; simp [Vf.linkGo, nAE, nCE, lEA, lEC]
theorem k4 (d : ByteArray) : Vf.create (K3 d) sB = (0, K4 d) := by
  refine (Vf.create_ok rfl m1 okB).trans ?_
  have e : Vf.link (K3 d).names sB ((K3 d).last + 1) = [⟨sA, 1⟩, ⟨sB, 2⟩] := link_b
  rw [e]
  rfl
theorem find_b : Vf.find [⟨sA, 1⟩, ⟨sB, 2⟩] sB = 2 := by simp [Vf.find, nAB, Vf.eqB_self]
theorem find_a (l : List Vf.Lk) : Vf.find (⟨sA, 1⟩ :: l) sA = 1 := by simp [Vf.find, Vf.eqB_self]
theorem k5 (d : ByteArray) : Vf.append (K4 d) sB d = (0, K5 d) := by
  refine (Vf.change_ok rfl m1 okB find_b (by decide)).trans ?_
  show (0, Vf.Dk.mk [_, Vf.chg ⟨2, ByteArray.empty, 0⟩ d false] _ _ _ _ _ _ _) = _
  unfold Vf.chg
  simp only [empty_app]
  rfl
theorem k6 (d : ByteArray) : Vf.sync (K5 d) sB = (0, K6 d) := by
  refine (Vf.change_ok rfl m1 okB find_b (by decide)).trans ?_
  show (0, Vf.Dk.mk [_, Vf.chg ⟨2, d, 0⟩ ByteArray.empty true] _ _ _ _ _ _ _) = _
  unfold Vf.chg
  simp only [app_empty, if_true]
  rfl
theorem k7 (d : ByteArray) : Vf.syncDir (K6 d) = (0, K7 d) := (Vf.syncDir_ok rfl m1).trans rfl
theorem k8 (d e : ByteArray) : Vf.append (K7 d) sA e = (0, K8 d e) := (Vf.change_ok rfl m1 okA (find_a _) (by decide)).trans rfl
theorem k9 (d e : ByteArray) : Vf.rename (K8 d e) sB sC = (0, K9 d e) := by
  refine (Vf.rename_ok rfl m1 okB okC find_b (by decide)).trans ?_
  have h : Vf.link (Vf.link (K8 d e).names sB 0) sC 2 = [⟨sA, 1⟩, ⟨sC, 2⟩] := by
    have e1 : Vf.link (K8 d e).names sB 0 = [⟨sA, 1⟩] := link_b0
    rw [e1, link_c]
  rw [h]
  rfl
theorem k10 (d e : ByteArray) : Vf.create (K9 d e) sE = (0, K10 d e) := by
  refine (Vf.create_ok rfl m1 okE).trans ?_
  have h : Vf.link (K9 d e).names sE ((K9 d e).last + 1) = [⟨sA, 1⟩, ⟨sC, 2⟩, ⟨sE, 3⟩] := link_e
  rw [h]
  rfl
theorem find_e : Vf.find [⟨sA, 1⟩, ⟨sC, 2⟩, ⟨sE, 3⟩] sE = 3 := by simp [Vf.find, nAE, nCE, Vf.eqB_self]
theorem find_c : Vf.find [⟨sA, 1⟩, ⟨sC, 2⟩, ⟨sE, 3⟩] sC = 2 := by simp [Vf.find, nAC, Vf.eqB_self]
theorem find_b3 : Vf.find [⟨sA, 1⟩, ⟨sC, 2⟩, ⟨sE, 3⟩] sB = 0 := by simp [Vf.find, nAB, nCB, nEB]
theorem find_c2 : Vf.find [⟨sA, 1⟩, ⟨sB, 2⟩] sC = 0 := by simp [Vf.find, nAC, nBC]
theorem find_e2 : Vf.find [⟨sA, 1⟩, ⟨sB, 2⟩] sE = 0 := by simp [Vf.find, nAE, nBE]
theorem k11 (d e : ByteArray) : Vf.append (K10 d e) sE e = (0, K11 d e) := by
  refine (Vf.change_ok rfl m1 okE find_e (by decide)).trans ?_
  show (0, Vf.Dk.mk [_, _, Vf.chg ⟨3, ByteArray.empty, 0⟩ e false] _ _ _ _ _ _ _) = _
  unfold Vf.chg
  simp only [empty_app]
  rfl
/-- What is read behind the loss. -/
theorem ra {d e : ByteArray} {c m : Nat} (h : Vf.Ok (K11 d e) c m) (loss : Int) : ∃ x : ByteArray, Vf.read (Vf.restart (K11 d e) loss).2 sA = (x, 0) ∧ d.size ≤ x.size ∧ x.size ≤ d.size + e.size ∧ (d ++ e).extract 0 x.size = x := by
  obtain ⟨z, hz, _, h2⟩ := Vf.restart_read h loss sA okA
  have h1 : Vf.find (K11 d e).kept sA = 1 := find_a _
  have h3 : Vf.find (K11 d e).names sA = 1 := find_a _
  obtain rfl : z = 1 := by rw [h1, h3] at hz; exact hz.elim id id
  obtain ⟨c, c1, c2, c3⟩ := h2 (by decide)
  have c1' : d.size ≤ c := c1
  have c2' : c ≤ (d ++ e).size := c2
  have hs : ((d ++ e).extract 0 c).size = c := by rw [ByteArray.size_extract]; omega
  rw [ByteArray.size_append] at c2'
  refine ⟨(d ++ e).extract 0 c, c3, by omega, by omega, by rw [hs]⟩
theorem rbc {d e : ByteArray} {c m : Nat} (h : Vf.Ok (K11 d e) c m) (loss : Int) (s : ByteArray) (hs : Vf.okN s = true) (hk : Vf.find (K11 d e).kept s = 2 ∧ Vf.find (K11 d e).names s = 0 ∨ Vf.find (K11 d e).kept s = 0 ∧ Vf.find (K11 d e).names s = 2) : Vf.read (Vf.restart (K11 d e) loss).2 s = (⟨#[]⟩, 11) ∨ Vf.read (Vf.restart (K11 d e) loss).2 s = (d, 0) := by
  obtain ⟨z, hz, h0, h2⟩ := Vf.restart_read h loss s hs
  have hz2 : z = 0 ∨ z = 2 := by clear h0 h2; omega
  rcases hz2 with rfl | rfl
  · exact .inl (h0 rfl)
  · obtain ⟨c, c1, c2, c3⟩ := h2 (by decide)
    have c1' : d.size ≤ c := c1
    have c2' : c ≤ d.size := c2
    obtain rfl : c = d.size := by omega
    refine .inr (c3.trans ?_)
    have hx : (Vf.fileAt (K11 d e).files 2).data = d := rfl
    rw [hx, ByteArray.extract_zero_size]
theorem re {d e : ByteArray} {c m : Nat} (h : Vf.Ok (K11 d e) c m) (loss : Int) : ∃ (x : ByteArray) (v : Int), Vf.read (Vf.restart (K11 d e) loss).2 sE = (x, v) ∧ (v = 0 ∨ v = 11) ∧ x.size ≤ e.size ∧ e.extract 0 x.size = x := by
  obtain ⟨z, hz, h0, h2⟩ := Vf.restart_read h loss sE okE
  have h1 : Vf.find (K11 d e).kept sE = 0 := find_e2
  have h3 : Vf.find (K11 d e).names sE = 3 := find_e
  have hz2 : z = 0 ∨ z = 3 := by clear h0 h2; omega
  rcases hz2 with rfl | rfl
  · refine ⟨_, _, h0 rfl, .inr rfl, Nat.zero_le _, ?_⟩
    show e.extract 0 0 = ByteArray.empty
    simp
  · obtain ⟨c, c1, c2, c3⟩ := h2 (by decide)
    have c2' : c ≤ e.size := c2
    have hs : (e.extract 0 c).size = c := by rw [ByteArray.size_extract]; omega
    exact ⟨e.extract 0 c, 0, c3, .inl rfl, by omega, by rw [hs]⟩
end Kp

set_option maxRecDepth 100000 in
set_option maxHeartbeats 16000000 in
theorem vfsKeeps_walk (data more : ByteArray) (loss : Int) (w : World) (hl : (Lit.int .i64 loss).wf = true) (hd : data.size ≤ 1048576) (hm : more.size ≤ 1048576) : Calls Try.prog 4 #[.string data, .string more, .int .i64 loss] w fun e w' => e = .returned (.bool true) ∧ Below w.heap.size w w' := by
  have hl1 : -9223372036854775808 ≤ loss ∧ loss ≤ 9223372036854775807 := bounds_i64 hl
  clear hl
  go_enter Try.func4, Try.ntmps4
  go_wp2_with fail
  refine (newSt w w (Below.refl _ _)).mono ?_
  rintro e1 w1 ⟨p, rfl, h⟩
  have H1 := Lib.hid h; clear h
  go_wp2_with fail
  refine (awake_any w1).mono ?_
  rintro e1 w2 ⟨rfl, h⟩
  have H2 := Lib.hid (H1.out.keep h); clear h H1
  go_wp2_with fail
  refine (H2.out.create_to (by omega) sA (by decide) Kp.k1).mono ?_
  rintro e1 w3 ⟨rfl, h⟩
  have H3 := Lib.hid h; clear h H2
  go_wp2_with fail
  refine (H3.out.append_to (by omega) sA data (by decide) hd (Kp.k2 data)).mono ?_
  rintro e1 w4 ⟨rfl, h⟩
  have H4 := Lib.hid h; clear h H3
  go_wp2_with fail
  refine (H4.out.sync_to (by omega) sA (by decide) (Kp.k3 data)).mono ?_
  rintro e1 w5 ⟨rfl, h⟩
  have H5 := Lib.hid h; clear h H4
  go_wp2_with fail
  refine (H5.out.create_to (by omega) Kp.sB (by decide) (Kp.k4 data)).mono ?_
  rintro e1 w6 ⟨rfl, h⟩
  have H6 := Lib.hid h; clear h H5
  go_wp2_with fail
  refine (H6.out.append_to (by omega) Kp.sB data (by decide) hd (Kp.k5 data)).mono ?_
  rintro e1 w7 ⟨rfl, h⟩
  have H7 := Lib.hid h; clear h H6
  go_wp2_with fail
  refine (H7.out.sync_to (by omega) Kp.sB (by decide) (Kp.k6 data)).mono ?_
  rintro e1 w8 ⟨rfl, h⟩
  have H8 := Lib.hid h; clear h H7
  go_wp2_with fail
  refine (H8.out.syncDir_to (by omega) (Kp.k7 data)).mono ?_
  rintro e1 w9 ⟨rfl, h⟩
  have H9 := Lib.hid h; clear h H8
  go_wp2_with fail
  refine (H9.out.append_to (by omega) sA more (by decide) hm (Kp.k8 data more)).mono ?_
  rintro e1 w10 ⟨rfl, h⟩
  have H10 := Lib.hid h; clear h H9
  go_wp2_with fail
  refine (H10.out.rename_to (by omega) Kp.sB Kp.sC (by decide) (by decide) (Kp.k9 data more)).mono ?_
  rintro e1 w11 ⟨rfl, h⟩
  have H11 := Lib.hid h; clear h H10
  go_wp2_with fail
  refine (H11.out.create_to (by omega) Kp.sE (by decide) (Kp.k10 data more)).mono ?_
  rintro e1 w12 ⟨rfl, h⟩
  have H12 := Lib.hid h; clear h H11
  go_wp2_with fail
  refine (H12.out.append_to (by omega) Kp.sE more (by decide) hm (Kp.k11 data more)).mono ?_
  rintro e1 w13 ⟨rfl, h⟩
  have H13 := Lib.hid h; clear h
  go_wp2_with fail
  refine (H13.out.restart (by omega) loss hl1).mono ?_
  rintro e1 w14 ⟨he, h⟩
  have he0 : e1 = .returned (.int .i64 0) := he; subst he0; clear he; have H14 := Lib.hid h; clear h
  obtain ⟨xa, hra, x1, x2, x3⟩ := Kp.ra H13.out.2.1.ok loss
  have hrb := Kp.rbc H13.out.2.1.ok loss Kp.sB Kp.okB (.inl ⟨Kp.find_b, Kp.find_b3⟩)
  have hrc := Kp.rbc H13.out.2.1.ok loss Kp.sC Kp.okC (.inr ⟨Kp.find_c2, Kp.find_c⟩)
  obtain ⟨xe, ve, hre, hv, y1, y2⟩ := Kp.re H13.out.2.1.ok loss
  generalize (Vf.restart (Kp.K11 data more) loss).2 = DR at *
  clear H13
  have a1 : (xa.toList != xa.toList) = false := by simp
  have a2 : (xe.toList == xe.toList) = true := by simp
  have a3 : (data.toList == data.toList) = true := by simp
  have a4 : ¬ 9223372036854775807 < data.size + more.size := by omega
  have b1 : ¬ (xa.size : Int) < (data.size : Int) := by omega
  have b2 : ¬ (data.size : Int) + (more.size : Int) < (xa.size : Int) := by omega
  have b3 : (xe.size : Int) ≤ (more.size : Int) := by omega
  have b4 : (xa.size : Int) ≤ (data.size : Int) + (more.size : Int) := by omega
  have HRA := Lib.hid hra
  have HRB := Lib.hid hrb
  have HRC := Lib.hid hrc
  have HRE := Lib.hid hre
  clear hra hrb hrc hre
  go_wp2_with fail
  have hr := H14.out.read sA (by decide)
  rw [HRA.out] at hr
  refine hr.mono ?_
  rintro e1 w15 ⟨rfl, h⟩
  have H15 := Lib.hid h; clear h hr H14
  rcases HRB.out with hb | hb
  · go_wp2_with fail
    have hr := H15.out.read Kp.sB (by decide)
    rw [hb] at hr
    refine hr.mono ?_
    rintro e1 w16 ⟨rfl, h⟩
    have H16 := Lib.hid h; clear h hr H15
    rcases HRC.out with hc | hc
    · go_wp2_with fail
      have hr := H16.out.read Kp.sC (by decide)
      rw [hc] at hr
      refine hr.mono ?_
      rintro e1 w17 ⟨rfl, h⟩
      have H17 := Lib.hid h; clear h hr H16
      rcases hv with rfl | rfl
      · go_wp2_with fail
        have hr := H17.out.read Kp.sE (by decide)
        rw [HRE.out] at hr
        refine hr.mono ?_
        rintro e1 w18 ⟨rfl, h⟩
        have H18 := Lib.hid h; clear h hr H17
        clear hb hc HRA HRB HRC HRE
        go_wp2_with fail
        all_goals
          go_ret
          exact ⟨by first | rfl | simp, H18.out.2.2⟩
      · go_wp2_with fail
        have hr := H17.out.read Kp.sE (by decide)
        rw [HRE.out] at hr
        refine hr.mono ?_
        rintro e1 w18 ⟨rfl, h⟩
        have H18 := Lib.hid h; clear h hr H17
        clear hb hc HRA HRB HRC HRE
        go_wp2_with fail
        all_goals
          go_ret
          exact ⟨by first | rfl | simp, H18.out.2.2⟩
    · go_wp2_with fail
      have hr := H16.out.read Kp.sC (by decide)
      rw [hc] at hr
      refine hr.mono ?_
      rintro e1 w17 ⟨rfl, h⟩
      have H17 := Lib.hid h; clear h hr H16
      rcases hv with rfl | rfl
      · go_wp2_with fail
        have hr := H17.out.read Kp.sE (by decide)
        rw [HRE.out] at hr
        refine hr.mono ?_
        rintro e1 w18 ⟨rfl, h⟩
        have H18 := Lib.hid h; clear h hr H17
        clear hb hc HRA HRB HRC HRE
        go_wp2_with fail
        all_goals
          go_ret
          exact ⟨by first | rfl | simp, H18.out.2.2⟩
      · go_wp2_with fail
        have hr := H17.out.read Kp.sE (by decide)
        rw [HRE.out] at hr
        refine hr.mono ?_
        rintro e1 w18 ⟨rfl, h⟩
        have H18 := Lib.hid h; clear h hr H17
        clear hb hc HRA HRB HRC HRE
        go_wp2_with fail
        all_goals
          go_ret
          exact ⟨by first | rfl | simp, H18.out.2.2⟩
  · go_wp2_with fail
    have hr := H15.out.read Kp.sB (by decide)
    rw [hb] at hr
    refine hr.mono ?_
    rintro e1 w16 ⟨rfl, h⟩
    have H16 := Lib.hid h; clear h hr H15
    rcases HRC.out with hc | hc
    · go_wp2_with fail
      have hr := H16.out.read Kp.sC (by decide)
      rw [hc] at hr
      refine hr.mono ?_
      rintro e1 w17 ⟨rfl, h⟩
      have H17 := Lib.hid h; clear h hr H16
      rcases hv with rfl | rfl
      · go_wp2_with fail
        have hr := H17.out.read Kp.sE (by decide)
        rw [HRE.out] at hr
        refine hr.mono ?_
        rintro e1 w18 ⟨rfl, h⟩
        have H18 := Lib.hid h; clear h hr H17
        clear hb hc HRA HRB HRC HRE
        go_wp2_with fail
        go_ret
        exact ⟨by first | rfl | simp, H18.out.2.2⟩
      · go_wp2_with fail
        have hr := H17.out.read Kp.sE (by decide)
        rw [HRE.out] at hr
        refine hr.mono ?_
        rintro e1 w18 ⟨rfl, h⟩
        have H18 := Lib.hid h; clear h hr H17
        clear hb hc HRA HRB HRC HRE
        go_wp2_with fail
        go_ret
        exact ⟨by first | rfl | simp, H18.out.2.2⟩
    · go_wp2_with fail
      have hr := H16.out.read Kp.sC (by decide)
      rw [hc] at hr
      refine hr.mono ?_
      rintro e1 w17 ⟨rfl, h⟩
      have H17 := Lib.hid h; clear h hr H16
      rcases hv with rfl | rfl
      · go_wp2_with fail
        have hr := H17.out.read Kp.sE (by decide)
        rw [HRE.out] at hr
        refine hr.mono ?_
        rintro e1 w18 ⟨rfl, h⟩
        have H18 := Lib.hid h; clear h hr H17
        clear hb hc HRA HRB HRC HRE
        go_wp2_with fail
        go_ret
        exact ⟨by first | rfl | simp, H18.out.2.2⟩
      · go_wp2_with fail
        have hr := H17.out.read Kp.sE (by decide)
        rw [HRE.out] at hr
        refine hr.mono ?_
        rintro e1 w18 ⟨rfl, h⟩
        have H18 := Lib.hid h; clear h hr H17
        clear hb hc HRA HRB HRC HRE
        go_wp2_with fail
        go_ret
        exact ⟨by first | rfl | simp, H18.out.2.2⟩
end Go.Proofs.Ytdohenbicepicaa
