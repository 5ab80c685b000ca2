/-
  The program's sets in memory: Copy, Pack.
-/
import Derived.Test.YtoppgecajibelaaTc
import Derived.Lib.SliceRun
namespace Go.Proofs.Ytoppgecajibelaa
open Go.RowKit
theorem bytes_one (l : List UInt8) : ∀ u ∈ bytesV l, u.oneCell' = true := by
  intro u hu
  obtain ⟨x, _, rfl⟩ := List.mem_map.1 hu
  rfl
theorem OwnB.form {w : World} {B : Nat} {v : Value} {l : List UInt8} (h : OwnB w B v l) : (v = .slice none 0 0 ∧ l = []) ∨ ∃ g c, v = .slice (some ⟨g, 0, none⟩) l.length c ∧ ∀ j u, (bytesV l)[j]? = some u → w.cell? ((⟨g, 0, none⟩ : Addr).add j) = some u := by
  unfold OwnB at h
  rcases h.2 with ⟨h1, h0⟩ | ⟨g, cap, cur, h1, hg, hh, hnc, hcp, hcs, htake⟩
  · exact .inl ⟨h1, List.length_eq_zero_iff.1 h0⟩
  · refine .inr ⟨g, cap, h1, fun j u hj => ?_⟩
    rw [h1] at h
    have hj2 : j < l.length := by
      have := (List.getElem?_eq_some_iff.1 hj).1
      rwa [bytesV_length] at this
    rw [Addr.add_lit, Nat.zero_add, h.cellAt j (by omega), hj]
theorem OwnB.slice {w : World} {B : Nat} {v : Value} {l : List UInt8} (h : OwnB w B v l) : ∃ a c, v = .slice a l.length c := by
  rcases h.form with ⟨rfl, rfl⟩ | ⟨g, c, rfl, _⟩
  · exact ⟨_, _, rfl⟩
  · exact ⟨_, _, rfl⟩
set_option maxHeartbeats 2000000 in
set_option maxRecDepth 100000 in
theorem cloneB_any (w : World) (B : Nat) (v : Value) (l : List UInt8) (h : OwnB w B v l) (hl : l.length ≤ 1099511627776) :
    Calls Try.prog 21 #[v] w fun e w' => ∃ v', e = .returned v' ∧ OwnB w' w.heap.size v' l ∧ Below w.heap.size w w' := by
  have q := fun (w : World) (a : Option Addr) (n c n' c' : Nat) => Lib.run_eql_slice_nil (P := Try.prog) w 47 5 a n c n' c' Try.underlying47
  rcases h.form with ⟨rfl, rfl⟩ | ⟨g, c, rfl, hnews⟩
  · go_enter Try.func21, Try.ntmps21
    go_wp2_with fail
    go_ret
    exact ⟨_, rfl, World.ownsRow_nil _ _ _ _, Below.refl _ _⟩
  · have HNW := Lib.hid hnews
    clear hnews
    obtain ⟨ii, hi, hz0, hz1, hz2⟩ := info_parts Try.infoB
    obtain ⟨n, hn⟩ : ∃ n, n = l.length := ⟨_, rfl⟩
    have HN := Lib.hid hn
    rw [← hn] at hl ⊢
    clear hn
    go_enter Try.func21, Try.ntmps21
    go_wp2_with (at_builtin; refine wpList_append_own _ rfl _ _ 47 rfl w.heap.size 5 ii _ 1 1 Try.underlying47 hi hz0 hz1 hz2 rfl (by decide) _ _ _ rfl (World.ownsRow_made w #[] 0 (Nat.le_refl _) (Nat.zero_le _) rfl) ⟨g, 0, none⟩ n c (bytesV l) rfl (by rw [bytesV_length, HN.out, Nat.mul_one]) (fun j u hu => Lib.cell?_alloc_some _ (HNW.out j u hu)) (bytes_one l) (by unfold maxLen; omega) (by omega) (by simp) ?_; intro v' w1 hown hgrow hnil; have HOW := Lib.hid hown; have HGR := Lib.hid hgrow; clear hown hgrow hnil)
    go_wp2_with fail
    go_ret
    refine ⟨v', rfl, ?_, ((Below.refl _ w).alloc (Nat.le_refl _) _).grown HGR.out (by simp) (by intro k hk; have hk2 : some w.heap.size = some k := hk; injection hk2 with hk2; omega)⟩
    unfold OwnB
    rw [← HN.out]
    simpa using HOW.out
/-- What Copy answers. -/
def CopyP (w : World) (n : Nat) (G : List Nat) (e : Ending) (w' : World) : Prop :=
  Below w.heap.size w w' ∧ ∃ p v, e = .returned (.pointer (some ⟨p, 0, none⟩)) ∧ SetS w' w.heap.size p n G v
set_option maxRecDepth 100000 in
set_option maxHeartbeats 4000000 in
theorem copyP_any (w : World) (B p n : Nat) (G : List Nat) (v : Value) (h : SetS w B p n G v) :
    Calls Try.prog 10 #[.pointer (some ⟨p, 0, none⟩)] w (CopyP w n G) := by
  have H := Lib.hid h
  have hl := Ls.bytesN_length n (Ls.val G)
  have hlim := h.lim
  have hcl := Lib.hid (fun W (hW : Below w.heap.size w W) => cloneB_any W B v _ (ownsRow_keep h.own fun k hk => hW.block k (World.ownsRow.lt h.own k hk).2) (by rw [hl]; omega))
  obtain ⟨c0, c1, c2, _⟩ := tri_box h.box
  have hpl : p < w.heap.size := blk_lt h.box
  have HP : Hid (p < w.heap.size) := hpl
  obtain ⟨a, c, hv, _⟩ := h.bytes
  obtain ⟨m, hm⟩ : ∃ m : Int, m = (n : Int) - (G.length : Int) := ⟨_, rfl⟩
  have HM := Lib.hid hm
  rw [← hm] at c1
  obtain ⟨q, hq⟩ : ∃ q, q = (n + 7) / 8 := ⟨_, rfl⟩
  rw [← hq] at hv
  subst hv
  have d0 : w.drew.cell? ⟨p, 0, none⟩ = some (.int .i64 (n : Int)) := c0
  have d1 : w.drew.cell? ⟨p, 1, none⟩ = some (.int .i64 m) := c1
  have d2 : w.drew.cell? ⟨p, 2, none⟩ = some (.slice a q c) := c2
  have HC0 := Lib.hid c0
  have HC1 := Lib.hid c1
  have HC2 := Lib.hid c2
  have HL : Hid ((Ls.bytesN n (Ls.val G)).length = q) := by show _ = _; rw [hl, hq]
  clear h hl hq hm
  go_enter Try.func10, Try.ntmps10
  go_wp2_with fail
  go_region_with (go_at_call 21; refine (hcl.out _ (Below.refl _ _).drew).mono ?_; rintro e1 w9 ⟨v9, rfl, ho9, hb9⟩; obtain ⟨a9, c9, hv9⟩ := ho9.slice; rw [HL.out] at hv9; subst hv9; have HB9 : Hid (Below w.heap.size w w9) := (Below.refl _ _).drew.trans hb9; have HO9 := Lib.hid ho9; have f0 := (HB9.out.cell (p := ⟨p, 0, none⟩) HP.out).trans HC0.out; have f1 := (HB9.out.cell (p := ⟨p, 1, none⟩) HP.out).trans HC1.out; have f2 := (HB9.out.cell (p := ⟨p, 2, none⟩) HP.out).trans HC2.out; clear ho9 hb9)
  all_goals
    go_wp2_with fail
    go_ret
    exact ⟨HB9.out.trans (((Below.refl _ _).alloc (Nat.le_refl _) _).mono HB9.out.size), _, _, rfl, HB9.out.size, by rw [← HM.out]; exact Go.Deep.blk_alloc_new _ _, ownsRow_keep HO9.out fun k hk => Go.Deep.blk_alloc_lt _ _ _ (World.ownsRow.lt HO9.out k hk).2, H.out.ok, H.out.lim⟩
end Go.Proofs.Ytoppgecajibelaa
