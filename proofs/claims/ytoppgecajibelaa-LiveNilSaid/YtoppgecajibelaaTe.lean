/-
  The program's sets in memory: Pack.
-/
import Derived.Test.YtoppgecajibelaaTd
namespace Go.Proofs.Ytoppgecajibelaa
open Go.RowKit
theorem nums_one (w : World) (b : Nat) (n : Nat) (hn : n ≤ 1048576) (hb : b < w.heap.size) (hc : w.cell? ⟨b, 0, none⟩ = some (.int .i64 (n : Int))) :
    Calls Try.prog 23 #[.slice (some ⟨b, 0, none⟩) 1 1] w fun e' w' => e' = .returned (.string ⟨(Pl.numB (n : Int)).toArray⟩) ∧ Below w.heap.size w w' := by
  have h := nums_any w [(n : Int)] 1 1 b 0 (by omega) rfl hb (fun j hj => by
    obtain rfl : j = 0 := by simp at hj; omega
    exact hc) (fun x hx => by
    obtain rfl : x = (n : Int) := by simpa using hx
    omega)
  have e : Pl.numsB [(n : Int)] = Pl.numB (n : Int) := by simp [Pl.numsB]
  rw [e] at h
  exact h
set_option maxRecDepth 100000 in
set_option maxHeartbeats 4000000 in
theorem packP_any (w : World) (B p n : Nat) (G : List Nat) (v : Value) (h : SetS w B p n G v) :
    Calls Try.prog 17 #[.pointer (some ⟨p, 0, none⟩)] w (StrPost w.heap.size w (Ls.pack n G)) := by
  have hl := Ls.bytesN_length n (Ls.val G)
  have hlim := h.lim
  obtain ⟨c0, _, c2, _⟩ := tri_box h.box
  have HP : Hid (p < w.heap.size) := blk_lt h.box
  obtain ⟨a, c, hv, _⟩ := h.bytes
  obtain ⟨X, hX⟩ : ∃ X : ByteArray, X = ⟨(Pl.numB (n : Int)).toArray⟩ := ⟨_, rfl⟩
  obtain ⟨Y, hY⟩ : ∃ Y : ByteArray, Y = ⟨(Ls.bytesN n (Ls.val G)).toArray⟩ := ⟨_, rfl⟩
  have HXY : Hid (X ++ Y = ⟨(Ls.pack n G).toArray⟩) := by show _ = _; rw [hX, hY]; simp [Ls.pack, ByteArray.ext_iff]
  have hXl : X.size ≤ 9 := by
    rw [hX]
    show (Pl.numB (n : Int)).toArray.size ≤ 9
    rw [List.size_toArray]
    exact numB_length _
  have hYl : Y.size ≤ 131072 := by rw [hY]; show (Ls.bytesN n (Ls.val G)).toArray.size ≤ _; rw [List.size_toArray, hl]; omega
  have hadd : ¬ 9223372036854775807 < X.size + Y.size := by omega
  obtain ⟨q, hq⟩ : ∃ q, q = (n + 7) / 8 := ⟨_, rfl⟩
  rw [← hq] at hv
  have hcv : Hid (∀ W : World, Below w.heap.size w W → (convert 47 9 (.slice a q c)).run Try.prog W = .ok (.string Y) W) := fun W hW => by
    rw [hY, ← hv]
    exact own_conv (show OwnB W B v _ from ownsRow_keep h.own fun k hk => hW.block k (World.ownsRow.lt h.own k hk).2)
  subst hv
  have hnum2 : Hid (∀ W : World, Below w.heap.size w W → Calls Try.prog 23 #[.slice (some ⟨W.heap.size, 0, none⟩) 1 1] (W.alloc (.cells #[.int .i64 (n : Int)] 3)) fun e w' => e = .returned (.string X) ∧ Below w.heap.size w w') := fun W hW => by
    rw [hX]
    refine (nums_one _ W.heap.size n hlim (by simp) (by rw [World.cell?_alloc_at _ _ _ _ rfl]; rfl)).mono ?_
    rintro e w' ⟨e1, e2⟩
    exact ⟨e1, hW.trans ((((Below.refl _ _).alloc (Nat.le_refl _) _).trans (e2.mono (by simp))).mono hW.size)⟩
  have d0 : w.drew.cell? ⟨p, 0, none⟩ = some (.int .i64 (n : Int)) := c0
  have d2 : w.drew.cell? ⟨p, 2, none⟩ = some (.slice a q c) := c2
  have e2 : (w.drew.alloc (.cells #[.int .i64 (n : Int)] 3)).cell? ⟨p, 2, none⟩ = some (.slice a q c) := (World.cell?_of_block (w := w) (Go.Deep.blk_alloc_lt _ _ _ HP.out)).trans c2
  have e3 : ((w.alloc (.cells #[.int .i64 (n : Int)] 3)).drew).cell? ⟨p, 2, none⟩ = some (.slice a q c) := e2
  have HD2 := Lib.hid c2
  have cv1 := hcv.out w.drew (Below.refl _ _).drew
  have cv2 := hcv.out (w.alloc (.cells #[.int .i64 (n : Int)] 3)).drew ((Below.refl _ _).alloc (Nat.le_refl _) _).drew
  clear h hl hX hY hXl hYl hq
  go_enter Try.func17, Try.ntmps17
  go_wp2_with fail
  go_region_with (go_at_call 23; refine (hnum2.out w.drew (Below.refl _ _).drew).mono ?_; rintro e1 w9 ⟨rfl, hb9⟩; have hcv9 := hcv.out w9 hb9; have d9 := (hb9.cell (p := ⟨p, 2, none⟩) HP.out).trans HD2.out; have HB9 := Lib.hid hb9; clear hb9)
  all_goals
    go_wp2_with fail
    go_ret
    exact ⟨by rw [← HXY.out]; rfl, HB9.out⟩
end Go.Proofs.Ytoppgecajibelaa
