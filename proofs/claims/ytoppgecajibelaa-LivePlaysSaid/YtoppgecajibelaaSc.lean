/-
  The document's sets in memory: New, Live, Kill.
-/
import Derived.Test.YtoppgecajibelaaSb
namespace Go.Proofs.Ytoppgecajibelaa
open Go.RowKit
/-- A set of the document's package: how many documents, and which are gone. -/
structure RefS (w : World) (B p n : Nat) (G : List Nat) (v : Value) : Prop where
  base : B ≤ p
  box : w.heap[p]? = some (.cells #[.int .i64 (n : Int), v] 40 (0, 0))
  own : OwnI w B v (G.map Int.ofNat)
  ok : Ls.Ok n G
  lim : n ≤ 1048576
theorem RefS.far {w : World} {B p n : Nat} {G : List Nat} {v : Value} (h : RefS w B p n G v) : v.ownBlock ≠ some p := h.own.far h.box (by decide)
theorem RefS.keep {w w' : World} {B p n : Nat} {G : List Nat} {v : Value} (h : RefS w B p n G v) (e1 : w'.heap[p]? = w.heap[p]?) (e2 : ∀ k, v.ownBlock = some k → w'.heap[k]? = w.heap[k]?) : RefS w' B p n G v :=
  ⟨h.base, e1.trans h.box, h.own.keepB e2, h.ok, h.lim⟩
theorem RefS.below {w w' : World} {B p n : Nat} {G : List Nat} {v : Value} (h : RefS w B p n G v) (hb : Below w.heap.size w w') : RefS w' B p n G v :=
  h.keep (hb.block p (blk_lt h.box)) fun k hk => hb.block k (World.ownsRow.lt h.own k hk).2
theorem RefS.base' {w : World} {B C p n : Nat} {G : List Nat} {v : Value} (h : RefS w B p n G v) (hC : C ≤ B) : RefS w C p n G v :=
  ⟨Nat.le_trans hC h.base, h.box, h.own.base hC, h.ok, h.lim⟩
theorem set_box {w : World} {p : Nat} {x : Int} {v : Value} (h : w.heap[p]? = some (.cells #[.int .i64 x, v] 40 (0, 0))) : w.cell? ⟨p, 0, none⟩ = some (.int .i64 x) ∧ w.cell? ⟨p, 1, none⟩ = some v ∧ ∀ j, w.frozen? ⟨p, j, none⟩ = false := ⟨by simp [World.cell?, h], by simp [World.cell?, h], fun j => by simp [World.frozen?, h]⟩
/-- What New answers. -/
def NewR (w : World) (x : Int) (e : Ending) (w' : World) : Prop :=
  Below w.heap.size w w' ∧ ((x < 0 ∧ e = .returned (.tuple #[.pointer none, .int .i64 1])) ∨ (1048576 < x ∧ e = .returned (.tuple #[.pointer none, .int .i64 4])) ∨
    ∃ n : Nat, x = (n : Int) ∧ n ≤ 1048576 ∧ e = .returned (.tuple #[.pointer (some ⟨w.heap.size, 0, none⟩), .int .i64 0]) ∧ RefS w' w.heap.size w.heap.size n [] (.slice none 0 0))
set_option maxRecDepth 100000 in
theorem newR_any (w : World) (x : Int) : Calls Try.prog 9 #[.int .i64 x] w (NewR w x) := by
  by_cases h0 : x < 0
  · go_enter Try.func9, Try.ntmps9
    go_wp2_with fail
    go_ret2
    exact ⟨Below.refl _ _, .inl ⟨h0, rfl⟩⟩
  · by_cases h1 : 1048576 < x
    · go_enter Try.func9, Try.ntmps9
      go_wp2_with fail
      go_ret2
      exact ⟨Below.refl _ _, .inr (.inl ⟨h1, rfl⟩)⟩
    · obtain ⟨n, rfl⟩ := Int.eq_ofNat_of_zero_le (show 0 ≤ x by omega)
      go_enter Try.func9, Try.ntmps9
      go_wp2_with fail
      go_ret2
      exact ⟨(Below.refl _ _).alloc (Nat.le_refl _) _, .inr (.inr ⟨n, rfl, by omega, rfl, Nat.le_refl _, Go.Deep.blk_alloc_new _ _, OwnI.nil _ _, Ls.Ok.nil _, by omega⟩)⟩
set_option maxRecDepth 100000 in
set_option maxHeartbeats 2000000 in
/-- Live. -/
theorem liveR_any (w : World) (B p n : Nat) (G : List Nat) (v : Value) (h : RefS w B p n G v) (x : Int) :
    Calls Try.prog 16 #[.pointer (some ⟨p, 0, none⟩), .int .i64 x] w fun e w' => e = .returned (.bool (Ls.lv n G x)) ∧ w' = w := by
  obtain ⟨g, a, cap, rfl, q1, q2, q3, _, _, q4, _⟩ := h.own.opened
  obtain ⟨c0, c1, _⟩ := set_box h.box
  have hlim := h.lim
  rw [List.length_map] at c1 q1 q3
  obtain ⟨m, hm⟩ : ∃ m, m = G.length := ⟨_, rfl⟩
  have HM := Lib.hid hm
  have HQ := Lib.hid q4
  have HA := Lib.hid q3
  rw [← hm] at c1 q1
  clear h q3 q4 hm
  by_cases h0 : x < 0
  · have hl : Hid (Ls.lv n G x = false) := decide_eq_false fun q => by omega
    go_enter Try.func16, Try.ntmps16
    go_wp2_with fail
    go_ret
    exact ⟨by rw [hl.out]; rfl, rfl⟩
  · by_cases h1 : (n : Int) ≤ x
    · have hl : Hid (Ls.lv n G x = false) := decide_eq_false fun q => by omega
      go_enter Try.func16, Try.ntmps16
      go_wp2_with fail
      go_ret
      exact ⟨by rw [hl.out]; rfl, rfl⟩
    · have h2 : ¬ x < 0 := h0
      obtain ⟨d, rfl⟩ := Int.eq_ofNat_of_zero_le (show 0 ≤ x by omega)
      have hd : Hid (d < n) := by show _ < _; omega
      go_enter Try.func16, Try.ntmps16
      go_wp2_with fail
      go_loopg [5] m (fun g' i wx => ∃ k : Nat, k ≤ m ∧ g' = m - k ∧ i = .int .i64 k ∧ Hid (∀ j (hj : j < G.length), j < k → G[j] ≠ d) ∧ wx = w)
      case atStart => exact ⟨0, Nat.zero_le _, rfl, rfl, fun j _ hj => by omega, rfl⟩
      case round =>
        obtain ⟨k, hk, rfl, rfl, hN, rfl⟩ := hrel
        by_cases hkm : k < m
        · have i2 : (k : Int) < (m : Int) := by omega
          have kG : k < G.length := by rw [← HM.out]; exact hkm
          obtain ⟨rfl, _⟩ := HA.out (by omega)
          have c2 := HQ.out k (by rw [List.length_map]; exact kG)
          rw [List.getElem_map] at c2
          obtain ⟨y, hy⟩ : ∃ y, y = G[k] := ⟨_, rfl⟩
          have HY := Lib.hid hy
          rw [← hy] at c2
          replace c2 : wr.cell? ⟨g, k, none⟩ = some (.int .i64 (y : Int)) := c2
          clear hy
          by_cases hyd : y = d
          · have hl : Hid (Ls.lv n G (d : Int) = false) := decide_eq_false fun q => q.2.2 (by rw [Int.toNat_natCast, ← hyd, HY.out]; exact List.getElem_mem kG)
            have e1 : ((y : Int) == (d : Int)) = true := by simp [hyd]
            clear hyd
            go_wp2_with fail
            go_ret
            exact ⟨by rw [hl.out]; rfl, rfl⟩
          · have e1 : ((y : Int) == (d : Int)) = false := by simp; omega
            have hN2 : Hid (∀ j (hj : j < G.length), j < k + 1 → G[j] ≠ d) := fun j hj hjk => by
              rcases Nat.lt_or_ge j k with q | q
              · exact hN.out j hj q
              · obtain rfl : j = k := by omega
                rw [← HY.out]
                exact hyd
            have hyd2 : ¬ (y : Int) = (d : Int) := by omega
            clear hN
            go_wp2_with fail
            go_roundg (m - (k + 1))
            case rel => exact ⟨k + 1, by omega, rfl, by go_num, hN2, rfl⟩
            case measure => omega
        · obtain rfl : k = m := by omega
          have hl : Hid (Ls.lv n G (d : Int) = true) := decide_eq_true ⟨by omega, by have := hd.out; omega, fun q => by
            rw [Int.toNat_natCast] at q
            obtain ⟨j, hj, e⟩ := List.getElem_of_mem q
            exact hN.out j hj (by rw [HM.out]; exact hj) e⟩
          go_wp2_with fail
          go_ret
          exact ⟨by rw [hl.out]; rfl, rfl⟩
/-- What Kill answers, and what else stays. -/
def KillR (w : World) (B p n : Nat) (G : List Nat) (v : Value) (x : Int) (e : Ending) (w' : World) : Prop :=
  e = .returned (.bool (Ls.lv n G x)) ∧ Below B w w' ∧ ∃ v', RefS w' B p n (Ls.kill n G x) v' ∧ (∀ k, k < w.heap.size → k ≠ p → v.ownBlock ≠ some k → w'.heap[k]? = w.heap[k]?) ∧ ∀ g, v'.ownBlock = some g → v.ownBlock = some g ∨ w.heap.size ≤ g
set_option maxRecDepth 100000 in
set_option maxHeartbeats 2000000 in
theorem killR_any (w : World) (B p n : Nat) (G : List Nat) (v : Value) (h : RefS w B p n G v) (hB : B ≤ w.heap.size) (x : Int) :
    Calls Try.prog 13 #[.pointer (some ⟨p, 0, none⟩), .int .i64 x] w (KillR w B p n G v x) := by
  have hlv := Lib.hid (liveR_any w B p n G v h x)
  have H := Lib.hid h
  by_cases hx : Ls.lv n G x = true
  · rw [hx] at hlv
    have HX := Lib.hid hx
    obtain ⟨a, cap, rfl⟩ := h.own.form
    obtain ⟨c0, c1, c2⟩ := set_box h.box
    have hG := h.ok.len
    have hlim := h.lim
    have HS : Hid (B ≤ w.heap.size) := hB
    obtain ⟨m, hm⟩ : ∃ m, m = (G.map Int.ofNat).length := ⟨_, rfl⟩
    have hml : m ≤ 1048576 := by rw [hm, List.length_map]; omega
    have HM := Lib.hid hm
    rw [← hm] at c1 H ⊢
    clear h hx hm hB hG
    go_enter Try.func13, Try.ntmps13
    go_wp2_with (first
      | (go_at_call 16; refine hlv.out.mono ?_; rintro e1 w1 ⟨rfl, rfl⟩; clear hlv)
      | (at_builtin; go_loud (refine wpList_appendM (F := fun _ => True) rfl _ _ rfl rfl B (Nat.le_trans HS.out (by simp)) (.slice a m cap) (.slice (some ⟨w1.heap.size, 0, none⟩) 1 1) (G.map Int.ofNat) [x] rfl rfl (H.out.own.alloc _) (one_int' _ _ rfl _) (by rw [← HM.out]; simp; omega) ?_; intro v8 w8 hO8 hB8 hM8; obtain ⟨a8, c8, hv8⟩ := hO8.form; have HO8 := Lib.hid hO8; have HB8 := Lib.hid hB8; have HM8 := Lib.hid hM8.pre; have hbx8 := (hM8.pre.1 p (blk_lt H.out.box) H.out.far).trans H.out.box; have HX8 := Lib.hid hbx8; obtain ⟨b0, b1, b2⟩ := set_box hbx8; obtain ⟨m8, hm8⟩ : ∃ m8, m8 = (G.map Int.ofNat ++ [x]).length := ⟨_, rfl⟩; rw [← hm8] at hv8; clear hm8 hO8 hB8 hM8 hbx8; subst hv8)))
    go_ret
    have hk : Ls.kill n G x = G ++ [x.toNat] := if_pos HX.out
    have hx0 : 0 ≤ x := (of_decide_eq_true HX.out).1
    refine ⟨by rw [HX.out]; rfl, (((Below.refl _ _).alloc HS.out _).trans HB8.out).setCell (p := ⟨p, 1, none⟩) H.out.base _, .slice a8 m8 c8, ⟨H.out.base, ?_, ?_, Ls.kill_ok H.out.ok x, H.out.lim⟩, fun k hk hne hv => (heap_other _ _ _ _ _ hne).trans (HM8.out.1 k hk hv), HM8.out.2⟩
    · rw [heap_set _ _ _ _ _ _ _ HX8.out]
      rfl
    · rw [hk, List.map_append]
      have e : [x.toNat].map Int.ofNat = [x] := by simp; omega
      rw [e]
      exact HO8.out.keepB fun k hk => heap_other _ _ _ _ _ fun e => HO8.out.far HX8.out (by decide) (e ▸ hk)
  · have hx2 : Ls.lv n G x = false := by simpa using hx
    rw [hx2] at hlv
    have HX := Lib.hid hx2
    clear hx hx2 h
    go_enter Try.func13, Try.ntmps13
    go_wp2_with (go_at_call 16; refine hlv.out.mono ?_; rintro e1 w1 ⟨rfl, rfl⟩; clear hlv)
    go_ret
    have hk : Ls.kill n G x = G := if_neg (by rw [HX.out]; simp)
    exact ⟨by rw [HX.out]; rfl, Below.refl _ _, v, by rw [hk]; exact H.out, fun _ _ _ _ => rfl, fun g hg => .inl hg⟩
end Go.Proofs.Ytoppgecajibelaa
