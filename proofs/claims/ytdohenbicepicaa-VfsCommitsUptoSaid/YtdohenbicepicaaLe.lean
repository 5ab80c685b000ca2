/-
  A file that is swapped in is old or new: the walk of the statement VfsCommits (made by gen_xle.py).
-/
import Derived.Test.YtdohenbicepicaaLc
import Derived.Test.YtdohenbicepicaaVj
import Derived.OpenShut
namespace Go.Proofs.Ytdohenbicepicaa
open Go.RowKit Go.Maps

abbrev sX : ByteArray := ⟨#[120]⟩
abbrev sT : ByteArray := ⟨#[116]⟩
theorem okX : Vf.okN sX = true := by decide
theorem okT : Vf.okN sT = true := by decide
theorem neTX : Vf.eqB sT sX = false := Vf.eqB_ne (by decide)
theorem neXT : Vf.eqB sX sT = false := Vf.eqB_ne (by decide)
theorem ltTX : Vf.ltB sT sX = true := Vf.ltB_iff.2 (by decide)
theorem app_empty (s : ByteArray) : s ++ ByteArray.empty = s := by simp
namespace Cm
/-- The disks on the way: armed with a, stopped or not. -/
def S0 (old : ByteArray) (f a : Int) (d : Bool) : Vf.Dk := ⟨[⟨1, old, old.size⟩], [⟨sX, 1⟩], [⟨sX, 1⟩], 1, 4, a, f, d⟩
def S1 (old : ByteArray) (a : Int) (d : Bool) : Vf.Dk := ⟨[⟨1, old, old.size⟩, ⟨2, ByteArray.empty, 0⟩], [⟨sT, 2⟩, ⟨sX, 1⟩], [⟨sX, 1⟩], 2, 5, a, 15, d⟩
def S2 (old data : ByteArray) (a : Int) (d : Bool) : Vf.Dk := ⟨[⟨1, old, old.size⟩, ⟨2, data, 0⟩], [⟨sT, 2⟩, ⟨sX, 1⟩], [⟨sX, 1⟩], 2, 6, a, 15, d⟩
def S3 (old data : ByteArray) (a : Int) (d : Bool) : Vf.Dk := ⟨[⟨1, old, old.size⟩, ⟨2, data, data.size⟩], [⟨sT, 2⟩, ⟨sX, 1⟩], [⟨sX, 1⟩], 2, 7, a, 15, d⟩
def S4 (old data : ByteArray) (a : Int) (d : Bool) : Vf.Dk := ⟨[⟨1, old, old.size⟩, ⟨2, data, data.size⟩], [⟨sX, 2⟩], [⟨sX, 1⟩], 2, 8, a, 15, d⟩
def S5 (old data : ByteArray) (a : Int) (d : Bool) : Vf.Dk := ⟨[⟨1, old, old.size⟩, ⟨2, data, data.size⟩], [⟨sX, 2⟩], [⟨sX, 2⟩], 2, 9, a, 15, d⟩
def A1 : Vf.Dk := ⟨[⟨1, ByteArray.empty, 0⟩], [⟨sX, 1⟩], [], 1, 1, -1, 0, false⟩
def A2 (old : ByteArray) : Vf.Dk := ⟨[⟨1, old, 0⟩], [⟨sX, 1⟩], [], 1, 2, -1, 0, false⟩
def A3 (old : ByteArray) : Vf.Dk := ⟨[⟨1, old, old.size⟩], [⟨sX, 1⟩], [], 1, 3, -1, 0, false⟩
theorem a1 : Vf.create Vf.new sX = (0, A1) := (Vf.create_ok rfl (by decide) okX).trans rfl
theorem a2 (old : ByteArray) : Vf.append A1 sX old = (0, A2 old) := by
  refine (Vf.change_ok rfl (show (-1 : Int) ≠ 0 by decide) okX (find1 sX 1) (by decide)).trans ?_
  show (0, Vf.Dk.mk [Vf.chg ⟨1, ByteArray.empty, 0⟩ old false] _ _ _ _ _ _ _) = _
  unfold Vf.chg
  simp only [empty_app]
  rfl
theorem a3 (old : ByteArray) : Vf.sync (A2 old) sX = (0, A3 old) := by
  refine (Vf.change_ok rfl (show (-1 : Int) ≠ 0 by decide) okX (find1 sX 1) (by decide)).trans ?_
  show (0, Vf.Dk.mk [Vf.chg ⟨1, old, 0⟩ ByteArray.empty true] _ _ _ _ _ _ _) = _
  unfold Vf.chg
  simp only [app_empty, if_true]
  rfl
theorem a4 (old : ByteArray) : Vf.syncDir (A3 old) = (0, S0 old 0 (-1) false) := (Vf.syncDir_ok rfl (show (-1 : Int) ≠ 0 by decide)).trans rfl
theorem a5 (old : ByteArray) (n : Int) (hn : 0 ≤ n) : Vf.arm (S0 old 0 (-1) false) n 15 = (0, S0 old 15 n false) := by
  unfold Vf.arm
  rw [if_neg (by omega)]
  rfl
theorem link_tx : Vf.link [⟨sX, 1⟩] sT 2 = [⟨sT, 2⟩, ⟨sX, 1⟩] := by
  unfold Vf.link Vf.linkGo
  simp [neXT, ltTX, Vf.linkGo]
theorem link_t0 : Vf.link [⟨sT, 2⟩, ⟨sX, 1⟩] sT 0 = [⟨sX, 1⟩] := by
  unfold Vf.link
  simp [Vf.linkGo, Vf.eqB_self, neXT]
theorem link_x2 : Vf.link [⟨sX, 1⟩] sX 2 = [⟨sX, 2⟩] := by
  unfold Vf.link
  simp [Vf.linkGo, Vf.eqB_self]
theorem find_t : Vf.find [⟨sT, 2⟩, ⟨sX, 1⟩] sT = 2 := by simp [Vf.find, Vf.eqB_self]
theorem find_x : Vf.find [⟨sT, 2⟩, ⟨sX, 1⟩] sX = 1 := by simp [Vf.find, neTX, Vf.eqB_self]
theorem s1 (old : ByteArray) {a : Int} (h : a ≠ 0) : Vf.create (S0 old 15 a false) sT = (0, S1 old (Vf.aft a) false) := by
  refine (Vf.create_ok rfl h okT).trans ?_
  have e : Vf.link (S0 old 15 a false).names sT ((S0 old 15 a false).last + 1) = [⟨sT, 2⟩, ⟨sX, 1⟩] := link_tx
  rw [e]
  rfl
theorem f1 (old : ByteArray) : Vf.create (S0 old 15 0 false) sT = (15, S0 old 15 (-1) true) := (Vf.create_fault rfl rfl (show (15 : Int) ≠ 0 by decide) okT).trans rfl
theorem s2 (old data : ByteArray) {a : Int} (h : a ≠ 0) : Vf.append (S1 old a false) sT data = (0, S2 old data (Vf.aft a) false) := by
  refine (Vf.change_ok rfl h okT find_t (by decide)).trans ?_
  show (0, Vf.Dk.mk [_, Vf.chg ⟨2, ByteArray.empty, 0⟩ data false] _ _ _ _ _ _ _) = _
  unfold Vf.chg
  simp only [empty_app]
  rfl
theorem f2 (old data : ByteArray) : Vf.append (S1 old 0 false) sT data = (15, S1 old (-1) true) := (Vf.change_fault rfl rfl (show (15 : Int) ≠ 0 by decide) okT find_t (by decide)).trans rfl
theorem s3 (old data : ByteArray) {a : Int} (h : a ≠ 0) : Vf.sync (S2 old data a false) sT = (0, S3 old data (Vf.aft a) false) := by
  refine (Vf.change_ok rfl h okT find_t (by decide)).trans ?_
  show (0, Vf.Dk.mk [_, Vf.chg ⟨2, data, 0⟩ ByteArray.empty true] _ _ _ _ _ _ _) = _
  unfold Vf.chg
  simp only [app_empty, if_true]
  rfl
theorem f3 (old data : ByteArray) : Vf.sync (S2 old data 0 false) sT = (15, S2 old data (-1) true) := (Vf.change_fault rfl rfl (show (15 : Int) ≠ 0 by decide) okT find_t (by decide)).trans rfl
theorem s4 (old data : ByteArray) {a : Int} (h : a ≠ 0) : Vf.rename (S3 old data a false) sT sX = (0, S4 old data (Vf.aft a) false) := by
  refine (Vf.rename_ok rfl h okT okX find_t (by decide)).trans ?_
  have e : Vf.link (Vf.link (S3 old data a false).names sT 0) sX 2 = [⟨sX, 2⟩] := by
    have e1 : Vf.link (S3 old data a false).names sT 0 = [⟨sX, 1⟩] := link_t0
    rw [e1, link_x2]
  rw [e]
  rfl
theorem f4 (old data : ByteArray) : Vf.rename (S3 old data 0 false) sT sX = (15, S3 old data (-1) true) := (Vf.rename_fault rfl rfl (show (15 : Int) ≠ 0 by decide) okT okX find_t (by decide)).trans rfl
theorem s5 (old data : ByteArray) {a : Int} (h : a ≠ 0) : Vf.syncDir (S4 old data a false) = (0, S5 old data (Vf.aft a) false) := (Vf.syncDir_ok rfl h).trans rfl
theorem f5 (old data : ByteArray) : Vf.syncDir (S4 old data 0 false) = (15, S4 old data (-1) true) := (Vf.syncDir_fault rfl rfl (show (15 : Int) ≠ 0 by decide)).trans rfl
theorem whole {f : Vf.Fl} {c : Nat} (h : f.sure = f.data.size) (h1 : f.sure ≤ c) (h2 : c ≤ f.data.size) : f.data.extract 0 c = f.data := by
  obtain rfl : c = f.data.size := by omega
  exact ByteArray.extract_zero_size
/-- A file that stood for the name in both lists, and was sure, is there as it was. -/
theorem read_one {D : Vf.Dk} {c m : Nat} (h : Vf.Ok D c m) (loss : Int) {n : Nat} (hn : n ≠ 0) (hk : Vf.find D.kept sX = n) (hm : Vf.find D.names sX = n) {f : Vf.Fl} (hf : Vf.fileAt D.files n = f) (hs : f.sure = f.data.size) : Vf.read (Vf.restart D loss).2 sX = (f.data, 0) := by
  obtain ⟨z, hz, _, h2⟩ := Vf.restart_read h loss sX okX
  obtain rfl : z = n := by rw [hk, hm] at hz; exact hz.elim id id
  obtain ⟨c, c1, c2, c3⟩ := h2 hn
  rw [hf] at c1 c2 c3
  rw [c3, whole hs c1 c2]
/-- One of two files, each of them sure, is there as it was. -/
theorem read_two {D : Vf.Dk} {c m : Nat} (h : Vf.Ok D c m) (loss : Int) {a b : Nat} (ha : a ≠ 0) (hb : b ≠ 0) (hk : Vf.find D.kept sX = a) (hm : Vf.find D.names sX = b) {f g : Vf.Fl} (hf : Vf.fileAt D.files a = f) (hs : f.sure = f.data.size) (hg : Vf.fileAt D.files b = g) (hs2 : g.sure = g.data.size) :
    Vf.read (Vf.restart D loss).2 sX = (f.data, 0) ∨ Vf.read (Vf.restart D loss).2 sX = (g.data, 0) := by
  obtain ⟨z, hz, _, h2⟩ := Vf.restart_read h loss sX okX
  rw [hk, hm] at hz
  rcases hz with rfl | rfl
  · obtain ⟨c, c1, c2, c3⟩ := h2 ha
    rw [hf] at c1 c2 c3
    exact .inl (by rw [c3, whole hs c1 c2])
  · obtain ⟨c, c1, c2, c3⟩ := h2 hb
    rw [hg] at c1 c2 c3
    exact .inr (by rw [c3, whole hs2 c1 c2])
end Cm

set_option maxRecDepth 100000 in
set_option maxHeartbeats 16000000 in
theorem vfsCommits_walk (old data : ByteArray) (n loss : Int) (w : World) (hn : (Lit.int .i64 n).wf = true) (hl : (Lit.int .i64 loss).wf = true) (ho : old.size ≤ 1048576) (hd : data.size ≤ 1048576) : Calls Try.prog 6 #[.string old, .string data, .int .i64 n, .int .i64 loss] w fun e w' => e = .returned (.bool true) ∧ Below w.heap.size w w' := by
  have hl1 : -9223372036854775808 ≤ loss ∧ loss ≤ 9223372036854775807 := bounds_i64 hl
  have hn1 : -9223372036854775808 ≤ n ∧ n ≤ 9223372036854775807 := bounds_i64 hn
  have hoo : (old.toList == old.toList) = true := by simp
  have hdd : (data.toList == data.toList) = true := by simp
  clear hn hl
  by_cases hneg : n < 0
  · go_enter Try.func6, Try.ntmps6
    go_wp2_with fail
    refine (newSt w w (Below.refl _ _)).mono ?_
    rintro e1 w1 ⟨p, rfl, h⟩
    have H1 := Lib.hid h; clear h
    go_wp2_with fail
    refine (awake_any w1).mono ?_
    rintro e1 w2 ⟨rfl, h⟩
    have H2 := Lib.hid (H1.out.keep h); clear h H1
    go_wp2_with fail
    refine (H2.out.create_to (by omega) sX (by decide) Cm.a1).mono ?_
    rintro e1 w3 ⟨rfl, h⟩
    have H3 := Lib.hid h; clear h H2
    go_wp2_with fail
    refine (H3.out.append_to (by omega) sX old (by decide) ho (Cm.a2 old)).mono ?_
    rintro e1 w4 ⟨rfl, h⟩
    have H4 := Lib.hid h; clear h H3
    go_wp2_with fail
    refine (H4.out.sync_to (by omega) sX (by decide) (Cm.a3 old)).mono ?_
    rintro e1 w5 ⟨rfl, h⟩
    have H5 := Lib.hid h; clear h H4
    go_wp2_with fail
    refine (H5.out.syncDir_to (by omega) (Cm.a4 old)).mono ?_
    rintro e1 w6 ⟨rfl, h⟩
    have H6 := Lib.hid h; clear h H5
    go_wp2_with fail
    go_ret
    exact ⟨rfl, H6.out.2.2⟩
  by_cases h0 : n = 0
  · subst h0
    go_enter Try.func6, Try.ntmps6
    go_wp2_with fail
    refine (newSt w w (Below.refl _ _)).mono ?_
    rintro e1 w1 ⟨p, rfl, h⟩
    have H1 := Lib.hid h; clear h
    go_wp2_with fail
    refine (awake_any w1).mono ?_
    rintro e1 w2 ⟨rfl, h⟩
    have H2 := Lib.hid (H1.out.keep h); clear h H1
    go_wp2_with fail
    refine (H2.out.create_to (by omega) sX (by decide) Cm.a1).mono ?_
    rintro e1 w3 ⟨rfl, h⟩
    have H3 := Lib.hid h; clear h H2
    go_wp2_with fail
    refine (H3.out.append_to (by omega) sX old (by decide) ho (Cm.a2 old)).mono ?_
    rintro e1 w4 ⟨rfl, h⟩
    have H4 := Lib.hid h; clear h H3
    go_wp2_with fail
    refine (H4.out.sync_to (by omega) sX (by decide) (Cm.a3 old)).mono ?_
    rintro e1 w5 ⟨rfl, h⟩
    have H5 := Lib.hid h; clear h H4
    go_wp2_with fail
    refine (H5.out.syncDir_to (by omega) (Cm.a4 old)).mono ?_
    rintro e1 w6 ⟨rfl, h⟩
    have H6 := Lib.hid h; clear h H5
    go_wp2_with fail
    refine (H6.out.arm_to 0 15 (by omega) (Cm.a5 old 0 (by omega))).mono ?_
    rintro e1 w7 ⟨rfl, h⟩
    have H7 := Lib.hid h; clear h H6
    go_wp2_with fail
    refine (H7.out.create_to (by omega) sT (by decide) (Cm.f1 old)).mono ?_
    rintro e1 w8 ⟨rfl, h⟩
    have H8 := Lib.hid h; clear h H7
    go_wp2_with fail
    refine (H8.out.restart (by omega) loss hl1).mono ?_
    rintro e1 w9 ⟨rfl, h⟩
    have H9 := Lib.hid h; clear h
    go_wp2_with fail
    refine (H9.out.read sX (by decide)).mono ?_
    rintro e1 w10 ⟨rfl, h⟩
    have HE := Lib.hid h.2.2; clear h
    have hr := Cm.read_one H8.out.2.1.ok loss (n := 1) (by decide) (find1 _ _) (find1 _ _) (f := ⟨1, old, old.size⟩) rfl rfl
    simp only [hr]
    clear hr H9 H8
    go_wp2_with fail
    go_ret
    exact ⟨rfl, HE.out⟩
  by_cases h1 : n = 1
  · subst h1
    go_enter Try.func6, Try.ntmps6
    go_wp2_with fail
    refine (newSt w w (Below.refl _ _)).mono ?_
    rintro e1 w1 ⟨p, rfl, h⟩
    have H1 := Lib.hid h; clear h
    go_wp2_with fail
    refine (awake_any w1).mono ?_
    rintro e1 w2 ⟨rfl, h⟩
    have H2 := Lib.hid (H1.out.keep h); clear h H1
    go_wp2_with fail
    refine (H2.out.create_to (by omega) sX (by decide) Cm.a1).mono ?_
    rintro e1 w3 ⟨rfl, h⟩
    have H3 := Lib.hid h; clear h H2
    go_wp2_with fail
    refine (H3.out.append_to (by omega) sX old (by decide) ho (Cm.a2 old)).mono ?_
    rintro e1 w4 ⟨rfl, h⟩
    have H4 := Lib.hid h; clear h H3
    go_wp2_with fail
    refine (H4.out.sync_to (by omega) sX (by decide) (Cm.a3 old)).mono ?_
    rintro e1 w5 ⟨rfl, h⟩
    have H5 := Lib.hid h; clear h H4
    go_wp2_with fail
    refine (H5.out.syncDir_to (by omega) (Cm.a4 old)).mono ?_
    rintro e1 w6 ⟨rfl, h⟩
    have H6 := Lib.hid h; clear h H5
    go_wp2_with fail
    refine (H6.out.arm_to 1 15 (by omega) (Cm.a5 old 1 (by omega))).mono ?_
    rintro e1 w7 ⟨rfl, h⟩
    have H7 := Lib.hid h; clear h H6
    go_wp2_with fail
    refine (H7.out.create_to (by omega) sT (by decide) (Cm.s1 old (a := 1) (by decide))).mono ?_
    rintro e1 w8 ⟨rfl, h⟩
    have H8 := Lib.hid h; clear h H7
    go_wp2_with fail
    refine (H8.out.append_to (by omega) sT data (by decide) hd (Cm.f2 old data)).mono ?_
    rintro e1 w9 ⟨rfl, h⟩
    have H9 := Lib.hid h; clear h H8
    go_wp2_with fail
    refine (H9.out.restart (by omega) loss hl1).mono ?_
    rintro e1 w10 ⟨rfl, h⟩
    have H10 := Lib.hid h; clear h
    go_wp2_with fail
    refine (H10.out.read sX (by decide)).mono ?_
    rintro e1 w11 ⟨rfl, h⟩
    have HE := Lib.hid h.2.2; clear h
    have hr := Cm.read_one H9.out.2.1.ok loss (n := 1) (by decide) (find1 _ _) (Cm.find_x) (f := ⟨1, old, old.size⟩) rfl rfl
    simp only [hr]
    clear hr H10 H9
    go_wp2_with fail
    go_ret
    exact ⟨rfl, HE.out⟩
  by_cases h2 : n = 2
  · subst h2
    go_enter Try.func6, Try.ntmps6
    go_wp2_with fail
    refine (newSt w w (Below.refl _ _)).mono ?_
    rintro e1 w1 ⟨p, rfl, h⟩
    have H1 := Lib.hid h; clear h
    go_wp2_with fail
    refine (awake_any w1).mono ?_
    rintro e1 w2 ⟨rfl, h⟩
    have H2 := Lib.hid (H1.out.keep h); clear h H1
    go_wp2_with fail
    refine (H2.out.create_to (by omega) sX (by decide) Cm.a1).mono ?_
    rintro e1 w3 ⟨rfl, h⟩
    have H3 := Lib.hid h; clear h H2
    go_wp2_with fail
    refine (H3.out.append_to (by omega) sX old (by decide) ho (Cm.a2 old)).mono ?_
    rintro e1 w4 ⟨rfl, h⟩
    have H4 := Lib.hid h; clear h H3
    go_wp2_with fail
    refine (H4.out.sync_to (by omega) sX (by decide) (Cm.a3 old)).mono ?_
    rintro e1 w5 ⟨rfl, h⟩
    have H5 := Lib.hid h; clear h H4
    go_wp2_with fail
    refine (H5.out.syncDir_to (by omega) (Cm.a4 old)).mono ?_
    rintro e1 w6 ⟨rfl, h⟩
    have H6 := Lib.hid h; clear h H5
    go_wp2_with fail
    refine (H6.out.arm_to 2 15 (by omega) (Cm.a5 old 2 (by omega))).mono ?_
    rintro e1 w7 ⟨rfl, h⟩
    have H7 := Lib.hid h; clear h H6
    go_wp2_with fail
    refine (H7.out.create_to (by omega) sT (by decide) (Cm.s1 old (a := 2) (by decide))).mono ?_
    rintro e1 w8 ⟨rfl, h⟩
    have H8 := Lib.hid h; clear h H7
    go_wp2_with fail
    refine (H8.out.append_to (by omega) sT data (by decide) hd (Cm.s2 old data (a := 1) (by decide))).mono ?_
    rintro e1 w9 ⟨rfl, h⟩
    have H9 := Lib.hid h; clear h H8
    go_wp2_with fail
    refine (H9.out.sync_to (by omega) sT (by decide) (Cm.f3 old data)).mono ?_
    rintro e1 w10 ⟨rfl, h⟩
    have H10 := Lib.hid h; clear h H9
    go_wp2_with fail
    refine (H10.out.restart (by omega) loss hl1).mono ?_
    rintro e1 w11 ⟨rfl, h⟩
    have H11 := Lib.hid h; clear h
    go_wp2_with fail
    refine (H11.out.read sX (by decide)).mono ?_
    rintro e1 w12 ⟨rfl, h⟩
    have HE := Lib.hid h.2.2; clear h
    have hr := Cm.read_one H10.out.2.1.ok loss (n := 1) (by decide) (find1 _ _) (Cm.find_x) (f := ⟨1, old, old.size⟩) rfl rfl
    simp only [hr]
    clear hr H11 H10
    go_wp2_with fail
    go_ret
    exact ⟨rfl, HE.out⟩
  by_cases h3 : n = 3
  · subst h3
    go_enter Try.func6, Try.ntmps6
    go_wp2_with fail
    refine (newSt w w (Below.refl _ _)).mono ?_
    rintro e1 w1 ⟨p, rfl, h⟩
    have H1 := Lib.hid h; clear h
    go_wp2_with fail
    refine (awake_any w1).mono ?_
    rintro e1 w2 ⟨rfl, h⟩
    have H2 := Lib.hid (H1.out.keep h); clear h H1
    go_wp2_with fail
    refine (H2.out.create_to (by omega) sX (by decide) Cm.a1).mono ?_
    rintro e1 w3 ⟨rfl, h⟩
    have H3 := Lib.hid h; clear h H2
    go_wp2_with fail
    refine (H3.out.append_to (by omega) sX old (by decide) ho (Cm.a2 old)).mono ?_
    rintro e1 w4 ⟨rfl, h⟩
    have H4 := Lib.hid h; clear h H3
    go_wp2_with fail
    refine (H4.out.sync_to (by omega) sX (by decide) (Cm.a3 old)).mono ?_
    rintro e1 w5 ⟨rfl, h⟩
    have H5 := Lib.hid h; clear h H4
    go_wp2_with fail
    refine (H5.out.syncDir_to (by omega) (Cm.a4 old)).mono ?_
    rintro e1 w6 ⟨rfl, h⟩
    have H6 := Lib.hid h; clear h H5
    go_wp2_with fail
    refine (H6.out.arm_to 3 15 (by omega) (Cm.a5 old 3 (by omega))).mono ?_
    rintro e1 w7 ⟨rfl, h⟩
    have H7 := Lib.hid h; clear h H6
    go_wp2_with fail
    refine (H7.out.create_to (by omega) sT (by decide) (Cm.s1 old (a := 3) (by decide))).mono ?_
    rintro e1 w8 ⟨rfl, h⟩
    have H8 := Lib.hid h; clear h H7
    go_wp2_with fail
    refine (H8.out.append_to (by omega) sT data (by decide) hd (Cm.s2 old data (a := 2) (by decide))).mono ?_
    rintro e1 w9 ⟨rfl, h⟩
    have H9 := Lib.hid h; clear h H8
    go_wp2_with fail
    refine (H9.out.sync_to (by omega) sT (by decide) (Cm.s3 old data (a := 1) (by decide))).mono ?_
    rintro e1 w10 ⟨rfl, h⟩
    have H10 := Lib.hid h; clear h H9
    go_wp2_with fail
    refine (H10.out.rename_to (by omega) sT sX (by decide) (by decide) (Cm.f4 old data)).mono ?_
    rintro e1 w11 ⟨rfl, h⟩
    have H11 := Lib.hid h; clear h H10
    go_wp2_with fail
    refine (H11.out.restart (by omega) loss hl1).mono ?_
    rintro e1 w12 ⟨rfl, h⟩
    have H12 := Lib.hid h; clear h
    go_wp2_with fail
    refine (H12.out.read sX (by decide)).mono ?_
    rintro e1 w13 ⟨rfl, h⟩
    have HE := Lib.hid h.2.2; clear h
    have hr := Cm.read_one H11.out.2.1.ok loss (n := 1) (by decide) (find1 _ _) (Cm.find_x) (f := ⟨1, old, old.size⟩) rfl rfl
    simp only [hr]
    clear hr H12 H11
    go_wp2_with fail
    go_ret
    exact ⟨rfl, HE.out⟩
  by_cases h4 : n = 4
  · subst h4
    go_enter Try.func6, Try.ntmps6
    go_wp2_with fail
    refine (newSt w w (Below.refl _ _)).mono ?_
    rintro e1 w1 ⟨p, rfl, h⟩
    have H1 := Lib.hid h; clear h
    go_wp2_with fail
    refine (awake_any w1).mono ?_
    rintro e1 w2 ⟨rfl, h⟩
    have H2 := Lib.hid (H1.out.keep h); clear h H1
    go_wp2_with fail
    refine (H2.out.create_to (by omega) sX (by decide) Cm.a1).mono ?_
    rintro e1 w3 ⟨rfl, h⟩
    have H3 := Lib.hid h; clear h H2
    go_wp2_with fail
    refine (H3.out.append_to (by omega) sX old (by decide) ho (Cm.a2 old)).mono ?_
    rintro e1 w4 ⟨rfl, h⟩
    have H4 := Lib.hid h; clear h H3
    go_wp2_with fail
    refine (H4.out.sync_to (by omega) sX (by decide) (Cm.a3 old)).mono ?_
    rintro e1 w5 ⟨rfl, h⟩
    have H5 := Lib.hid h; clear h H4
    go_wp2_with fail
    refine (H5.out.syncDir_to (by omega) (Cm.a4 old)).mono ?_
    rintro e1 w6 ⟨rfl, h⟩
    have H6 := Lib.hid h; clear h H5
    go_wp2_with fail
    refine (H6.out.arm_to 4 15 (by omega) (Cm.a5 old 4 (by omega))).mono ?_
    rintro e1 w7 ⟨rfl, h⟩
    have H7 := Lib.hid h; clear h H6
    go_wp2_with fail
    refine (H7.out.create_to (by omega) sT (by decide) (Cm.s1 old (a := 4) (by decide))).mono ?_
    rintro e1 w8 ⟨rfl, h⟩
    have H8 := Lib.hid h; clear h H7
    go_wp2_with fail
    refine (H8.out.append_to (by omega) sT data (by decide) hd (Cm.s2 old data (a := 3) (by decide))).mono ?_
    rintro e1 w9 ⟨rfl, h⟩
    have H9 := Lib.hid h; clear h H8
    go_wp2_with fail
    refine (H9.out.sync_to (by omega) sT (by decide) (Cm.s3 old data (a := 2) (by decide))).mono ?_
    rintro e1 w10 ⟨rfl, h⟩
    have H10 := Lib.hid h; clear h H9
    go_wp2_with fail
    refine (H10.out.rename_to (by omega) sT sX (by decide) (by decide) (Cm.s4 old data (a := 1) (by decide))).mono ?_
    rintro e1 w11 ⟨rfl, h⟩
    have H11 := Lib.hid h; clear h H10
    go_wp2_with fail
    refine (H11.out.syncDir_to (by omega) (Cm.f5 old data)).mono ?_
    rintro e1 w12 ⟨rfl, h⟩
    have H12 := Lib.hid h; clear h H11
    go_wp2_with fail
    refine (H12.out.restart (by omega) loss hl1).mono ?_
    rintro e1 w13 ⟨rfl, h⟩
    have H13 := Lib.hid h; clear h
    go_wp2_with fail
    refine (H13.out.read sX (by decide)).mono ?_
    rintro e1 w14 ⟨rfl, h⟩
    have HE := Lib.hid h.2.2; clear h
    have hr := Cm.read_two H12.out.2.1.ok loss (a := 1) (b := 2) (by decide) (by decide) (find1 _ _) (find1 _ _) (f := ⟨1, old, old.size⟩) (g := ⟨2, data, data.size⟩) rfl rfl rfl rfl
    rcases hr with hr | hr
    · simp only [hr]
      clear hr H13 H12
      go_wp2_with fail
      go_ret
      exact ⟨rfl, HE.out⟩
    · simp only [hr]
      clear hr H13 H12
      cases hdo : (data.toList == old.toList)
      · go_wp2_with fail
        go_ret
        exact ⟨rfl, HE.out⟩
      · go_wp2_with fail
        go_ret
        exact ⟨rfl, HE.out⟩
  · have h5 : 5 ≤ n := by omega
    clear hneg h0 h1 h2 h3 h4
    have hge : (4 : Int) ≤ n := by omega
    have hge2 : decide ((4 : Int) ≤ n) = true := by simp; omega
    have ha1 : Vf.aft n = n - 1 := if_pos (by omega)
    have ha2 : Vf.aft (Vf.aft n) = n - 2 := by rw [ha1]; exact (if_pos (by omega)).trans (by omega)
    have ha3 : Vf.aft (Vf.aft (Vf.aft n)) = n - 3 := by rw [ha2]; exact (if_pos (by omega)).trans (by omega)
    have ha4 : Vf.aft (Vf.aft (Vf.aft (Vf.aft n))) = n - 4 := by rw [ha3]; exact (if_pos (by omega)).trans (by omega)
    have HA : Hid (Vf.aft n ≠ 0 ∧ Vf.aft (Vf.aft n) ≠ 0 ∧ Vf.aft (Vf.aft (Vf.aft n)) ≠ 0 ∧ Vf.aft (Vf.aft (Vf.aft (Vf.aft n))) ≠ 0) := ⟨by omega, by omega, by omega, by omega⟩
    clear ha1 ha2 ha3 ha4
    go_enter Try.func6, Try.ntmps6
    go_wp2_with fail
    refine (newSt w w (Below.refl _ _)).mono ?_
    rintro e1 w1 ⟨p, rfl, h⟩
    have H1 := Lib.hid h; clear h
    go_wp2_with fail
    refine (awake_any w1).mono ?_
    rintro e1 w2 ⟨rfl, h⟩
    have H2 := Lib.hid (H1.out.keep h); clear h H1
    go_wp2_with fail
    refine (H2.out.create_to (by omega) sX (by decide) Cm.a1).mono ?_
    rintro e1 w3 ⟨rfl, h⟩
    have H3 := Lib.hid h; clear h H2
    go_wp2_with fail
    refine (H3.out.append_to (by omega) sX old (by decide) ho (Cm.a2 old)).mono ?_
    rintro e1 w4 ⟨rfl, h⟩
    have H4 := Lib.hid h; clear h H3
    go_wp2_with fail
    refine (H4.out.sync_to (by omega) sX (by decide) (Cm.a3 old)).mono ?_
    rintro e1 w5 ⟨rfl, h⟩
    have H5 := Lib.hid h; clear h H4
    go_wp2_with fail
    refine (H5.out.syncDir_to (by omega) (Cm.a4 old)).mono ?_
    rintro e1 w6 ⟨rfl, h⟩
    have H6 := Lib.hid h; clear h H5
    go_wp2_with fail
    refine (H6.out.arm_to n 15 (by omega) (Cm.a5 old n (by omega))).mono ?_
    rintro e1 w7 ⟨rfl, h⟩
    have H7 := Lib.hid h; clear h H6
    go_wp2_with fail
    refine (H7.out.create_to (by omega) sT (by decide) (Cm.s1 old (by omega))).mono ?_
    rintro e1 w8 ⟨rfl, h⟩
    have H8 := Lib.hid h; clear h H7
    go_wp2_with fail
    refine (H8.out.append_to (by omega) sT data (by decide) hd (Cm.s2 old data HA.out.1)).mono ?_
    rintro e1 w9 ⟨rfl, h⟩
    have H9 := Lib.hid h; clear h H8
    go_wp2_with fail
    refine (H9.out.sync_to (by omega) sT (by decide) (Cm.s3 old data HA.out.2.1)).mono ?_
    rintro e1 w10 ⟨rfl, h⟩
    have H10 := Lib.hid h; clear h H9
    go_wp2_with fail
    refine (H10.out.rename_to (by omega) sT sX (by decide) (by decide) (Cm.s4 old data HA.out.2.2.1)).mono ?_
    rintro e1 w11 ⟨rfl, h⟩
    have H11 := Lib.hid h; clear h H10
    go_wp2_with fail
    refine (H11.out.syncDir_to (by omega) (Cm.s5 old data HA.out.2.2.2)).mono ?_
    rintro e1 w12 ⟨rfl, h⟩
    have H12 := Lib.hid h; clear h H11
    go_wp2_with fail
    refine (H12.out.restart (by omega) loss hl1).mono ?_
    rintro e1 w13 ⟨rfl, h⟩
    have H13 := Lib.hid h; clear h
    go_wp2_with fail
    refine (H13.out.read sX (by decide)).mono ?_
    rintro e1 w14 ⟨rfl, h⟩
    have HE := Lib.hid h.2.2; clear h
    have hr := Cm.read_one H12.out.2.1.ok loss (n := 2) (by decide) (find1 _ _) (find1 _ _) (f := ⟨2, data, data.size⟩) rfl rfl
    simp only [hr]
    clear hr H13 H12
    cases hdo : (data.toList == old.toList)
    · go_wp2_with fail
      go_ret
      exact ⟨by first | rfl | simp, HE.out⟩
    · go_wp2_with fail
      go_ret
      exact ⟨by first | rfl | simp, HE.out⟩
end Go.Proofs.Ytdohenbicepicaa
