/-
  All bytes are read as the document says, in new memory; what was packed is read back: the walks of the statements, over what is asked of Pack and Read.
-/
import Derived.Test.YtjeicjnlhepaiaaBpSmallW
namespace Go.Proofs.Ytjeicjnlhepaiaa
open Go.RowKit

theorem numbers_eq (w : World) (u v : Value) (xs ys : List Int) (hu : IntS w u xs) (hv : IntS w v ys) (hx : xs.length ≤ 9223372036854775807) (hy : ys.length ≤ 9223372036854775807) (h : xs = ys) :
    Calls Try.prog 11 #[u, v] w fun e' w' => e' = .returned (.bool true) ∧ Below w.heap.size w w' := by
  have hn := numbers_any w u v xs ys hu hv hx hy
  rw [decide_eq_true h] at hn
  exact hn
theorem ofNat_toNat_map (l : List Nat) : (l.map Int.ofNat).map Int.toNat = l := by
  rw [List.map_map]
  have : (Int.toNat ∘ Int.ofNat) = id := by funext x; rfl
  rw [this, List.map_id]
theorem read_small (s : List UInt8) (l : List Nat) (z : Nat) (e : Int) (h : Bp.rdPack s = (l, z, e)) (hs : s.length ≤ 1073741824) : l.length ≤ 137438953472 := by
  obtain ⟨_, h2, h3⟩ := Bp.pack_one s l z e h
  by_cases he : e = 0
  · obtain ⟨h4, h5, h6, h7⟩ := h3 he
    have h8 := congrArg List.length h6
    unfold Bp.packB at h8
    rw [List.length_append, List.length_take] at h8
    have h9 : ∀ (k : Nat) (l : List Nat), l.length ≤ k → l.length ≤ 128 * (Bp.chB k l).length := by
      intro k
      induction k with
      | zero => intro l h; omega
      | succ k ih =>
        intro l h
        simp only [Bp.chB]
        split
        · omega
        · have := ih (l.drop 128) (by rw [List.length_drop]; omega)
          rw [List.length_drop] at this
          rw [List.length_append, Bp.blkB_length]
          omega
    have := h9 l.length l (Nat.le_refl _)
    omega
  · rw [(h2 he).1]
    simp

theorem OwnI.lower {w : World} {B B' : Nat} {v : Value} {l : List Int} (h : OwnI w B v l) (hB : B' ≤ B) : OwnI w B' v l := by
  refine ⟨h.1, ?_⟩
  rcases h.2 with ⟨h1, h2⟩ | ⟨g, cap, cur, h1, hg, hr⟩
  · exact .inl ⟨h1, h2⟩
  · exact .inr ⟨g, cap, cur, h1, Nat.le_trans hB hg, hr⟩

set_option maxRecDepth 100000 in
set_option maxHeartbeats 2000000 in
theorem reads_walk3 (hP : PackC) (hR : ReadC) (s : ByteArray) (w : World) (hs : s.size ≤ 1048576) :
    Calls Try.prog 4 #[.string s] w fun e w' => e = .returned (.bool true) ∧ Below w.heap.size w w' := by
  obtain ⟨l, z, e, hrd⟩ : ∃ l z e, Bp.rdPack s.data.toList = (l, z, e) := ⟨_, _, _, rfl⟩
  have hll := read_small _ _ _ _ hrd (by simp; omega)
  have h1 : Hid (∀ w', Calls Try.prog 12 #[.string s] w' (ReadPost w'.heap.size w' l z e)) := fun w' => by
    have h := hR w' s (by omega)
    rw [hrd] at h
    exact h
  have h2 : Hid (∀ w', Calls Try.prog 13 #[.string s] w' (ReadPost w'.heap.size w' l z e)) := fun w' => by
    have h := readR_c w' s (by omega)
    rw [hrd] at h
    exact h
  have hlm : (l.map Int.ofNat).length ≤ 137438953472 := by rw [List.length_map]; exact hll
  clear hrd hll
  go_enter Try.func4, Try.ntmps4
  go_wp2_with fail
  refine (h1.out _).mono ?_
  rintro e1 w1 ⟨va, rfl, hoa, hb1⟩
  have HVA : Hid (va = .slice none 0 0 ∧ l.length = 0 ∨ ∃ g cap, va = .slice (some ⟨g, 0, none⟩) l.length cap ∧ w.heap.size ≤ g ∧ g < w1.heap.size) := by
    have hown : w1.ownsRow w.heap.size 3 1 va (l.map Int.ofNat).length (intsV (l.map Int.ofNat)) := hoa
    rcases hoa.2 with ⟨h1, h2⟩ | ⟨g, cap, cur, h1, hg, hr⟩
    · exact .inl ⟨h1, by simpa using h2⟩
    · exact .inr ⟨g, cap, by rw [h1, List.length_map], hg, (hown.lt g (by rw [h1]; rfl)).2⟩
  have HA1 := Lib.hid hoa
  have HB1 := Lib.hid hb1
  clear hoa hb1
  go_wp2_with fail
  refine (h2.out _).mono ?_
  rintro e1 w2 ⟨vb, rfl, hob, hb2⟩
  have HA2 : Hid (OwnI w2 w.heap.size va (l.map Int.ofNat)) := HA1.out.keep hb2 (Nat.le_refl _)
  have HO2 := Lib.hid hob
  have HB2 := Lib.hid hb2
  clear hob hb2 HA1
  go_wp2_with fail
  refine (h1.out _).mono ?_
  rintro e1 w3 ⟨vc, rfl, hoc, hb3⟩
  have HA3 : Hid (OwnI w3 w.heap.size va (l.map Int.ofNat)) := HA2.out.keep hb3 (Nat.le_refl _)
  have HO3 : Hid (OwnI w3 w1.heap.size vb (l.map Int.ofNat)) := HO2.out.keep hb3 (Nat.le_refl _)
  have HC3 : Hid (OwnI w3 w1.heap.size vc (l.map Int.ofNat)) := hoc.lower HB2.out.size
  have HW3 : Hid (Below w1.heap.size w1 w3) := HB2.out.trans (hb3.mono HB2.out.size)
  clear hoc hb3 HA2 HO2
  go_wp2_with fail
  refine (awake3_any hP hR _).mono ?_
  rintro e1 w4 ⟨rfl, hb4⟩
  have HA4 : Hid (OwnI w4 w.heap.size va (l.map Int.ofNat)) := HA3.out.keep hb4 (Nat.le_refl _)
  have HO4 : Hid (OwnI w4 w1.heap.size vb (l.map Int.ofNat)) := HO3.out.keep hb4 (Nat.le_refl _)
  have HC4 : Hid (OwnI w4 w1.heap.size vc (l.map Int.ofNat)) := HC3.out.keep hb4 (Nat.le_refl _)
  have HW4 : Hid (Below w1.heap.size w1 w4) := HW3.out.trans (hb4.mono HW3.out.size)
  clear hb4 HA3 HO3 HC3 HW3
  go_wp2_with fail
  refine (numbers_eq w4 va vb _ _ (HA4.out.ints (by omega)) (HO4.out.ints (by omega)) (by omega) (by omega) rfl).mono ?_
  rintro e1 w5 ⟨rfl, hb5⟩
  have HA5 : Hid (OwnI w5 w.heap.size va (l.map Int.ofNat)) := HA4.out.keep hb5 (Nat.le_refl _)
  have HO5 : Hid (OwnI w5 w1.heap.size vb (l.map Int.ofNat)) := HO4.out.keep hb5 (Nat.le_refl _)
  have HC5 : Hid (OwnI w5 w1.heap.size vc (l.map Int.ofNat)) := HC4.out.keep hb5 (Nat.le_refl _)
  have HW5 : Hid (Below w1.heap.size w1 w5) := HW4.out.trans (hb5.mono HW4.out.size)
  clear hb5 HA4 HO4 HC4 HW4
  rcases HVA.out with ⟨rfl, h0⟩ | ⟨g, cap, rfl, hg, hg1⟩
  · clear HVA HA5
    go_wp2_with fail
    refine wp_loop_rounds 1 ?_
    rw [rounds_succ]
    go_wp2_with fail
    refine (numbers_eq w5 vc vb _ _ (HC5.out.ints (by omega)) (HO5.out.ints (by omega)) (by omega) (by omega) rfl).mono ?_
    rintro e1 w6 ⟨rfl, hb6⟩
    have HF : Hid (Below w.heap.size w w6) := by
      have h5 : Below w.heap.size w w5 := HB1.out.trans (HW5.out.mono HB1.out.size)
      exact h5.trans (hb6.mono h5.size)
    clear hb6
    go_wp2_with fail
    go_ret
    exact ⟨rfl, HF.out⟩
  · clear HVA
    obtain ⟨n, hn⟩ : ∃ n, l.length = n := ⟨_, rfl⟩
    have HAO : Hid (w5.ownsRow w.heap.size 3 1 (.slice (some ⟨g, 0, none⟩) n cap) n (intsV (l.map Int.ofNat))) := by
      have h := HA5.out
      unfold OwnI at h
      rw [List.length_map, hn] at h
      exact h
    have HN := Lib.hid hn
    have hlm2 := Lib.hid hlm
    have hnl : n ≤ 137438953472 := by rw [← hn]; simpa using hlm
    rw [hn]
    clear HA5 hn hlm
    go_wp2_with fail
    go_loopg [12] n (fun gg i wx => ∃ (k : Nat) (xs : List Value), k ≤ n ∧ gg = n - k ∧ i = .int .i64 k ∧ wx.ownsRow w.heap.size 3 1 (.slice (some ⟨g, 0, none⟩) n cap) n xs ∧ OwnI wx w1.heap.size vb (l.map Int.ofNat) ∧ OwnI wx w1.heap.size vc (l.map Int.ofNat) ∧ Below w.heap.size w wx)
    case atStart => exact ⟨0, _, Nat.zero_le _, rfl, rfl, HAO.out, HO5.out, HC5.out, HB1.out.trans (HW5.out.mono HB1.out.size)⟩
    case round =>
      clear HAO HO5 HC5 HW5
      obtain ⟨k, xs, hk, rfl, rfl, hown, hob, hoc, hbel⟩ := hrel
      by_cases hkn : k < n
      · have i1 : (k : Int) < (n : Int) := by omega
        have hxl : xs.length = n * 1 := hown.1
        have c1 : wr.cell? ⟨g, k, none⟩ = some (xs[k]'(by omega)) := by
          rw [hown.cellAt k (by omega), List.getElem?_eq_getElem (by omega)]
        have f1 : wr.frozen? ⟨g, k, none⟩ = false := hown.frozenAt k
        have hst := (hown.stored k (.int .i64 (-1))).1
        have HS1 := Lib.hid hst
        have HS2 : Hid (OwnI (wr.setCell ⟨g, k, none⟩ (.int .i64 (-1))) w1.heap.size vb (l.map Int.ofNat)) := ownsRow_setCell_below hob (by show g < w1.heap.size; omega) _
        have HS3 : Hid (OwnI (wr.setCell ⟨g, k, none⟩ (.int .i64 (-1))) w1.heap.size vc (l.map Int.ofNat)) := ownsRow_setCell_below hoc (by show g < w1.heap.size; omega) _
        have HS4 : Hid (Below w.heap.size w (wr.setCell ⟨g, k, none⟩ (.int .i64 (-1)))) := hbel.setCell (by show w.heap.size ≤ g; omega) _
        clear hst hown hob hoc hbel
        generalize xs[k]'(by omega) = x at *
        clear hxl
        go_wp2_with fail
        go_roundg (n - (k + 1))
        case rel => exact ⟨k + 1, _, by omega, rfl, by go_num, HS1.out, HS2.out, HS3.out, HS4.out⟩
        case measure => omega
      · have hlm := hlm2.out
        have HNU := Lib.hid (numbers_eq wr vc vb _ _ (hoc.ints (by omega)) (hob.ints (by omega)) (by omega) (by omega) rfl)
        have HBE := Lib.hid hbel
        clear hown hob hoc hbel hlm
        go_wp2_with fail
        refine HNU.out.mono ?_
        rintro e1 w6 ⟨rfl, hb6⟩
        have HF : Hid (Below w.heap.size w w6) := HBE.out.trans (hb6.mono HBE.out.size)
        clear hb6
        go_wp2_with fail
        go_ret
        exact ⟨rfl, HF.out⟩
end Go.Proofs.Ytjeicjnlhepaiaa
