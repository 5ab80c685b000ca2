/-
  What the program's Read answers: the document's postings.
-/
import Derived.Test.YtokdjaljeckghaaPq
namespace Go.Proofs.Ytokdjaljeckghaa
open Go.RowKit
namespace Pt
def held (s : List UInt8) (k j : Nat) : List Int := if j < k then hel s j else []
end Pt
theorem OwnI.below {w w' : World} {B : Nat} {v : Value} {l : List Int} (h : OwnI w B v l) (hb : Below w.heap.size w w') : OwnI w' B v l := h.keepB fun k hk => hb.block k (World.ownsRow.lt h k hk).2
theorem Tri3.cells {w : World} {b : Nat} {va vb vc : Value} (h : w.heap[b]? = some (.cells #[va, vb, vc] 58 (0, 0))) : w.drew.cell? ⟨b, 0, none⟩ = some va ∧ w.drew.cell? ⟨b, 1, none⟩ = some vb ∧ w.drew.cell? ⟨b, 2, none⟩ = some vc ∧ ∀ j, w.drew.frozen? ⟨b, j, none⟩ = false := box_at (w := w.drew) h
theorem PRow.base' {w : World} {B C b n : Nat} {d : List Pt.Po} {vs : List Value} (h : PRow w B b n d vs) (hC : C ≤ B) : PRow w C b n d vs :=
  ⟨Nat.le_trans hC h.base, h.blk, h.room, h.len, fun j j1 j2 => ⟨(h.each j j1 j2).1.base hC, (h.each j j1 j2).2⟩⟩
/-- What is answered of postings read. -/
def ReadP (w : World) (s : List UInt8) (e : Ending) (w' : World) : Prop :=
  ∃ v', e = .returned (.tuple #[v', .int .i64 (Pt.read s).2]) ∧ Below w.heap.size w w' ∧ (((Pt.read s).2 ≠ 0 ∧ v' = .slice none 0 0) ∨ ((Pt.read s).2 = 0 ∧ ∃ g n vs, v' = .slice (some ⟨g, 0, none⟩) n n ∧ n = (Pt.read s).1.length ∧ PRow w' w.heap.size g n (Pt.read s).1 vs))
theorem ReadP.bad {w w' : World} {s : List UInt8} {x : Int} (h : Pt.read s = ([], x)) (hx : x ≠ 0) (hb : Below w.heap.size w w') : ReadP w s (.returned (.tuple #[.slice none 0 0, .int .i64 x])) w' :=
  ⟨_, by rw [h], hb, .inl ⟨by rw [h]; exact hx, rfl⟩⟩
set_option maxRecDepth 100000 in
set_option maxHeartbeats 8000000 in
theorem read_any (w : World) (s : ByteArray) (hs : s.size ≤ 134000000) :
    Calls Try.prog 17 #[.string s] w (ReadP w s.data.toList) := by
  obtain ⟨S, hS⟩ : ∃ S, S = s.data.toList := ⟨_, rfl⟩
  have HS := Lib.hid hS
  have hSl : S.length ≤ 134000000 := by rw [hS, arr_len]; exact hs
  rw [← hS]
  have hST : Hid (∀ (k : Nat) (r : ByteArray), r.data.toList = Pt.st S k → r.size ≤ 134000000) := fun k r h => by
    have h1 := Pt.st_length S k
    rw [← h, arr_len] at h1
    omega
  have HRC := Lib.hid read_c
  have hbx : Hid ((w.alloc (.cells #[.slice none 0 0, .slice none 0 0, .slice none 0 0] 58)).heap[w.heap.size]? = some (.cells #[.slice none 0 0, .slice none 0 0, .slice none 0 0] 58 (0, 0))) := Go.Deep.blk_alloc_new _ _
  have hB0 : Hid (Below w.heap.size w (w.alloc (.cells #[.slice none 0 0, .slice none 0 0, .slice none 0 0] 58))) := (Below.refl _ _).alloc (Nat.le_refl _) _
  clear hS
  go_enter Try.func17, Try.ntmps17
  go_wp2_with fail
  go_loopg [5, 6, 15] 3 (fun g lv mv iv wx => ∃ (k : Nat) (r : ByteArray) (v0 v1 v2 : Value), k ≤ 3 ∧ g = 3 - k ∧ iv = .int .i64 k ∧ lv = .string r ∧ mv = .bool (Pt.anyM S k) ∧ Hid (r.data.toList = Pt.st S k) ∧ Hid (∀ j, j < k → Pt.er S j = 0) ∧
    wx.heap[w.heap.size]? = some (.cells #[v0, v1, v2] 58 (0, 0)) ∧ OwnI wx w.heap.size v0 (Pt.held S k 0) ∧ OwnI wx w.heap.size v1 (Pt.held S k 1) ∧ OwnI wx w.heap.size v2 (Pt.held S k 2) ∧ Below w.heap.size w wx)
  case atStart => exact ⟨0, s, _, _, _, Nat.zero_le _, rfl, rfl, rfl, rfl, HS.out.symm, fun j h => absurd h (Nat.not_lt_zero j), hbx.out, OwnI.nil _ _, OwnI.nil _ _, OwnI.nil _ _, hB0.out⟩
  case round =>
    clear hbx hB0
    obtain ⟨k, r, v0, v1, v2, hk, rfl, rfl, rfl, rfl, hrd, her, hX, h0, h1, h2, hbel⟩ := hrel
    have HX := Lib.hid hX
    have H0 := Lib.hid h0
    have H1 := Lib.hid h1
    have H2 := Lib.hid h2
    have HBE := Lib.hid hbel
    clear hX h0 h1 h2 hbel
    rcases (show k = 0 ∨ k = 1 ∨ k = 2 ∨ k = 3 by omega) with rfl | rfl | rfl | rfl
    · have hrs := hST.out 0 r hrd.out
      have htm := Lib.hid (tooMany_any wr 0 r (by omega) (by omega))
      rw [hrd.out] at htm
      have hzl := Pt.rd_le (Pt.st S 0)
      rw [← hrd.out, arr_len, hrd.out] at hzl
      obtain ⟨z, hz⟩ : ∃ z, z = (Bp.rdPack (Pt.st S 0)).2.1 := ⟨_, rfl⟩
      rw [← hz] at hzl
      have HZ := Lib.hid hz
      have hnx : Hid ((r.extract z r.size).data.toList = Pt.st S 1) := by
        have h := rest_data r ((z : Nat) : Int)
        unfold rest at h
        rw [Int.toNat_natCast] at h
        rw [h, hz, hrd.out]
        rfl
      have hbad : Hid (Pt.er S 0 ≠ 0 → Pt.read S = ([], Pt.er S 0)) := fun h => by rw [Pt.read_st, if_pos h]
      have hok : Hid (Pt.er S 0 = 0 → ∀ j, j < 1 → Pt.er S j = 0) := fun h j hj => by
        rcases Nat.lt_or_ge j 0 with h1 | h1
        · exact her.out j h1
        · obtain rfl : j = 0 := by omega
          exact h
      have hsk := Lib.hid (fun wx : World => skim_any wx r (by omega))
      have hrc := Lib.hid (fun wx : World => HRC.out wx r (by omega))
      rw [hrd.out] at hsk hrc
      clear hz
      by_cases hM : Pt.many 0 (Pt.st S 0)
      · have hany : Hid (Pt.anyM S 1 = true) := by show (Pt.anyM S 0 || decide (Pt.many 0 (Pt.st S 0))) = true; rw [decide_eq_true hM, Bool.or_true]
        have hhel : Hid (Pt.hel S 0 = []) := if_pos hM
        rw [decide_eq_true hM] at htm
        clear hM hrc
        by_cases hE : Pt.er S 0 = 0
        · have HE := Lib.hid hE
          have hsk2 : Hid (∀ wx : World, Calls Try.prog 33 #[.string r] wx fun e w' => e = .returned (.tuple #[.slice none 0 0, .int .i64 (z : Int), .int .i64 0]) ∧ Below wx.heap.size wx w') := fun wx => by
            have h := hsk.out wx
            rw [← HZ.out, show (Bp.rdPack (Pt.st S 0)).2.2 = 0 from hE] at h
            exact h
          clear hE hsk
          go_wp2_with (first
            | (go_at_call 32; refine htm.out.mono ?_; rintro e1 w1 ⟨rfl, hb1⟩; have HB1 := Lib.hid hb1; clear hb1)
            | (go_at_call 33; refine (hsk2.out _).mono ?_; rintro e1 w3 ⟨rfl, hb3⟩; have HB3 := Lib.hid (HB1.out.trans (hb3.mono HB1.out.size)); clear hb3))
          have X3 : Hid (w3.heap[w.heap.size]? = some (.cells #[v0, v1, v2] 58 (0, 0))) := (HB3.out.block _ (blk_lt HX.out)).trans HX.out
          obtain ⟨x0, x1, x2, x3⟩ := Tri3.cells X3.out
          go_region
          all_goals
            go_wp2_with fail
            go_roundg 2
            case rel => exact ⟨1, r.extract z r.size, .slice none 0 0, v1, v2, by omega, rfl, by go_num, rfl, by rw [hany.out], hnx, hok.out HE.out, heap_set _ _ _ _ _ _ _ X3.out, by rw [show Pt.held S 1 0 = [] from hhel.out]; exact OwnI.nil _ _, (H1.out.below HB3.out).boxed X3.out, (H2.out.below HB3.out).boxed X3.out, (HBE.out.trans (HB3.out.mono HBE.out.size)).drew.setCell (p := ⟨w.heap.size, 0, none⟩) (Nat.le_refl _) _⟩
            case measure => omega
        · have hR := Lib.hid (hbad.out hE)
          have HE := Lib.hid hE
          obtain ⟨x, hx⟩ : ∃ x, x = Pt.er S 0 := ⟨_, rfl⟩
          have hne : ((x : Int) != 0) = true := by rw [hx]; simpa using hE
          have hsk2 : Hid (∀ wx : World, Calls Try.prog 33 #[.string r] wx fun e w' => e = .returned (.tuple #[.slice none 0 0, .int .i64 (z : Int), .int .i64 x]) ∧ Below wx.heap.size wx w') := fun wx => by
            have h := hsk.out wx
            rw [← HZ.out, show (Bp.rdPack (Pt.st S 0)).2.2 = x from hx.symm] at h
            exact h
          rw [← hx] at hR HE
          clear hE hsk hx
          go_wp2_with (first
            | (go_at_call 32; refine htm.out.mono ?_; rintro e1 w1 ⟨rfl, hb1⟩; have HB1 := Lib.hid hb1; clear hb1)
            | (go_at_call 33; refine (hsk2.out _).mono ?_; rintro e1 w3 ⟨rfl, hb3⟩; have HB3 := Lib.hid (HB1.out.trans (hb3.mono HB1.out.size)); clear hb3))
          go_ret2
          exact ReadP.bad hR.out HE.out (HBE.out.trans (HB3.out.mono HBE.out.size))
      · have hany : Hid (Pt.anyM S 1 = Pt.anyM S 0) := by show (Pt.anyM S 0 || decide (Pt.many 0 (Pt.st S 0))) = _; rw [decide_eq_false hM, Bool.or_false]
        have hhel : Hid (Pt.hel S 0 = (Pt.nu S 0).map Int.ofNat) := if_neg hM
        rw [decide_eq_false hM] at htm
        clear hM hsk
        by_cases hE : Pt.er S 0 = 0
        · have HE := Lib.hid hE
          have hrc2 : Hid (∀ wx : World, Calls Try.prog 31 #[.string r] wx fun e w' => ∃ v, e = .returned (.tuple #[v, .int .i64 (z : Int), .int .i64 0]) ∧ OwnI w' wx.heap.size v ((Pt.nu S 0).map Int.ofNat) ∧ Below wx.heap.size wx w') := fun wx => by
            have h := hrc.out wx
            rw [← HZ.out, show (Bp.rdPack (Pt.st S 0)).2.2 = 0 from hE] at h
            exact h
          clear hE hrc
          go_wp2_with (first
            | (go_at_call 32; refine htm.out.mono ?_; rintro e1 w1 ⟨rfl, hb1⟩; have HB1 := Lib.hid hb1; clear hb1)
            | (go_at_call 31; refine (hrc2.out _).mono ?_; rintro e1 w3 ⟨v3, rfl, hO3, hb3⟩; have HB3 := Lib.hid (HB1.out.trans (hb3.mono HB1.out.size)); have HO3 := Lib.hid (hO3.base (Nat.le_trans HBE.out.size HB1.out.size)); obtain ⟨a3, c3, f3⟩ := hO3.form; obtain ⟨n3, hn3⟩ : ∃ n3, n3 = ((Pt.nu S 0).map Int.ofNat).length := ⟨_, rfl⟩; rw [← hn3] at f3; clear hn3 hO3 hb3; subst f3))
          have X3 : Hid (w3.heap[w.heap.size]? = some (.cells #[v0, v1, v2] 58 (0, 0))) := (HB3.out.block _ (blk_lt HX.out)).trans HX.out
          obtain ⟨x0, x1, x2, x3⟩ := Tri3.cells X3.out
          go_region
          all_goals
            go_wp2_with fail
            go_roundg 2
            case rel => exact ⟨1, r.extract z r.size, .slice a3 n3 c3, v1, v2, by omega, rfl, by go_num, rfl, by rw [hany.out], hnx, hok.out HE.out, heap_set _ _ _ _ _ _ _ X3.out, by rw [show Pt.held S 1 0 = (Pt.nu S 0).map Int.ofNat from hhel.out]; exact HO3.out.boxed X3.out, (H1.out.below HB3.out).boxed X3.out, (H2.out.below HB3.out).boxed X3.out, (HBE.out.trans (HB3.out.mono HBE.out.size)).drew.setCell (p := ⟨w.heap.size, 0, none⟩) (Nat.le_refl _) _⟩
            case measure => omega
        · have hR := Lib.hid (hbad.out hE)
          have HE := Lib.hid hE
          obtain ⟨x, hx⟩ : ∃ x, x = Pt.er S 0 := ⟨_, rfl⟩
          have hne : ((x : Int) != 0) = true := by rw [hx]; simpa using hE
          have hrc2 : Hid (∀ wx : World, Calls Try.prog 31 #[.string r] wx fun e w' => ∃ v, e = .returned (.tuple #[v, .int .i64 (z : Int), .int .i64 x]) ∧ Below wx.heap.size wx w') := fun wx => by
            have h := hrc.out wx
            rw [← HZ.out, show (Bp.rdPack (Pt.st S 0)).2.2 = x from hx.symm] at h
            exact h.mono fun e w' ⟨v, e1, _, e2⟩ => ⟨v, e1, e2⟩
          rw [← hx] at hR HE
          clear hE hrc hx
          go_wp2_with (first
            | (go_at_call 32; refine htm.out.mono ?_; rintro e1 w1 ⟨rfl, hb1⟩; have HB1 := Lib.hid hb1; clear hb1)
            | (go_at_call 31; refine (hrc2.out _).mono ?_; rintro e1 w3 ⟨v3, rfl, hb3⟩; have HB3 := Lib.hid (HB1.out.trans (hb3.mono HB1.out.size)); clear hb3))
          go_ret2
          exact ReadP.bad hR.out HE.out (HBE.out.trans (HB3.out.mono HBE.out.size))
    · have hrs := hST.out 1 r hrd.out
      have htm := Lib.hid (tooMany_any wr 1 r (by omega) (by omega))
      rw [hrd.out] at htm
      have hzl := Pt.rd_le (Pt.st S 1)
      rw [← hrd.out, arr_len, hrd.out] at hzl
      obtain ⟨z, hz⟩ : ∃ z, z = (Bp.rdPack (Pt.st S 1)).2.1 := ⟨_, rfl⟩
      rw [← hz] at hzl
      have HZ := Lib.hid hz
      have hnx : Hid ((r.extract z r.size).data.toList = Pt.st S 2) := by
        have h := rest_data r ((z : Nat) : Int)
        unfold rest at h
        rw [Int.toNat_natCast] at h
        rw [h, hz, hrd.out]
        rfl
      have hbad : Hid (Pt.er S 1 ≠ 0 → Pt.read S = ([], Pt.er S 1)) := fun h => by rw [Pt.read_st, if_neg (by simpa using her.out 0 (by omega)), if_pos h]
      have hok : Hid (Pt.er S 1 = 0 → ∀ j, j < 2 → Pt.er S j = 0) := fun h j hj => by
        rcases Nat.lt_or_ge j 1 with h1 | h1
        · exact her.out j h1
        · obtain rfl : j = 1 := by omega
          exact h
      have hsk := Lib.hid (fun wx : World => skim_any wx r (by omega))
      have hrc := Lib.hid (fun wx : World => HRC.out wx r (by omega))
      rw [hrd.out] at hsk hrc
      clear hz
      by_cases hM : Pt.many 1 (Pt.st S 1)
      · have hany : Hid (Pt.anyM S 2 = true) := by show (Pt.anyM S 1 || decide (Pt.many 1 (Pt.st S 1))) = true; rw [decide_eq_true hM, Bool.or_true]
        have hhel : Hid (Pt.hel S 1 = []) := if_pos hM
        rw [decide_eq_true hM] at htm
        clear hM hrc
        by_cases hE : Pt.er S 1 = 0
        · have HE := Lib.hid hE
          have hsk2 : Hid (∀ wx : World, Calls Try.prog 33 #[.string r] wx fun e w' => e = .returned (.tuple #[.slice none 0 0, .int .i64 (z : Int), .int .i64 0]) ∧ Below wx.heap.size wx w') := fun wx => by
            have h := hsk.out wx
            rw [← HZ.out, show (Bp.rdPack (Pt.st S 1)).2.2 = 0 from hE] at h
            exact h
          clear hE hsk
          go_wp2_with (first
            | (go_at_call 32; refine htm.out.mono ?_; rintro e1 w1 ⟨rfl, hb1⟩; have HB1 := Lib.hid hb1; clear hb1)
            | (go_at_call 33; refine (hsk2.out _).mono ?_; rintro e1 w3 ⟨rfl, hb3⟩; have HB3 := Lib.hid (HB1.out.trans (hb3.mono HB1.out.size)); clear hb3))
          have X3 : Hid (w3.heap[w.heap.size]? = some (.cells #[v0, v1, v2] 58 (0, 0))) := (HB3.out.block _ (blk_lt HX.out)).trans HX.out
          obtain ⟨x0, x1, x2, x3⟩ := Tri3.cells X3.out
          go_region
          all_goals
            go_wp2_with fail
            go_roundg 1
            case rel => exact ⟨2, r.extract z r.size, v0, .slice none 0 0, v2, by omega, rfl, by go_num, rfl, by rw [hany.out], hnx, hok.out HE.out, heap_set _ _ _ _ _ _ _ X3.out, (H0.out.below HB3.out).boxed X3.out, by rw [show Pt.held S 2 1 = [] from hhel.out]; exact OwnI.nil _ _, (H2.out.below HB3.out).boxed X3.out, (HBE.out.trans (HB3.out.mono HBE.out.size)).drew.setCell (p := ⟨w.heap.size, 1, none⟩) (Nat.le_refl _) _⟩
            case measure => omega
        · have hR := Lib.hid (hbad.out hE)
          have HE := Lib.hid hE
          obtain ⟨x, hx⟩ : ∃ x, x = Pt.er S 1 := ⟨_, rfl⟩
          have hne : ((x : Int) != 0) = true := by rw [hx]; simpa using hE
          have hsk2 : Hid (∀ wx : World, Calls Try.prog 33 #[.string r] wx fun e w' => e = .returned (.tuple #[.slice none 0 0, .int .i64 (z : Int), .int .i64 x]) ∧ Below wx.heap.size wx w') := fun wx => by
            have h := hsk.out wx
            rw [← HZ.out, show (Bp.rdPack (Pt.st S 1)).2.2 = x from hx.symm] at h
            exact h
          rw [← hx] at hR HE
          clear hE hsk hx
          go_wp2_with (first
            | (go_at_call 32; refine htm.out.mono ?_; rintro e1 w1 ⟨rfl, hb1⟩; have HB1 := Lib.hid hb1; clear hb1)
            | (go_at_call 33; refine (hsk2.out _).mono ?_; rintro e1 w3 ⟨rfl, hb3⟩; have HB3 := Lib.hid (HB1.out.trans (hb3.mono HB1.out.size)); clear hb3))
          go_ret2
          exact ReadP.bad hR.out HE.out (HBE.out.trans (HB3.out.mono HBE.out.size))
      · have hany : Hid (Pt.anyM S 2 = Pt.anyM S 1) := by show (Pt.anyM S 1 || decide (Pt.many 1 (Pt.st S 1))) = _; rw [decide_eq_false hM, Bool.or_false]
        have hhel : Hid (Pt.hel S 1 = (Pt.nu S 1).map Int.ofNat) := if_neg hM
        rw [decide_eq_false hM] at htm
        clear hM hsk
        by_cases hE : Pt.er S 1 = 0
        · have HE := Lib.hid hE
          have hrc2 : Hid (∀ wx : World, Calls Try.prog 31 #[.string r] wx fun e w' => ∃ v, e = .returned (.tuple #[v, .int .i64 (z : Int), .int .i64 0]) ∧ OwnI w' wx.heap.size v ((Pt.nu S 1).map Int.ofNat) ∧ Below wx.heap.size wx w') := fun wx => by
            have h := hrc.out wx
            rw [← HZ.out, show (Bp.rdPack (Pt.st S 1)).2.2 = 0 from hE] at h
            exact h
          clear hE hrc
          go_wp2_with (first
            | (go_at_call 32; refine htm.out.mono ?_; rintro e1 w1 ⟨rfl, hb1⟩; have HB1 := Lib.hid hb1; clear hb1)
            | (go_at_call 31; refine (hrc2.out _).mono ?_; rintro e1 w3 ⟨v3, rfl, hO3, hb3⟩; have HB3 := Lib.hid (HB1.out.trans (hb3.mono HB1.out.size)); have HO3 := Lib.hid (hO3.base (Nat.le_trans HBE.out.size HB1.out.size)); obtain ⟨a3, c3, f3⟩ := hO3.form; obtain ⟨n3, hn3⟩ : ∃ n3, n3 = ((Pt.nu S 1).map Int.ofNat).length := ⟨_, rfl⟩; rw [← hn3] at f3; clear hn3 hO3 hb3; subst f3))
          have X3 : Hid (w3.heap[w.heap.size]? = some (.cells #[v0, v1, v2] 58 (0, 0))) := (HB3.out.block _ (blk_lt HX.out)).trans HX.out
          obtain ⟨x0, x1, x2, x3⟩ := Tri3.cells X3.out
          go_region
          all_goals
            go_wp2_with fail
            go_roundg 1
            case rel => exact ⟨2, r.extract z r.size, v0, .slice a3 n3 c3, v2, by omega, rfl, by go_num, rfl, by rw [hany.out], hnx, hok.out HE.out, heap_set _ _ _ _ _ _ _ X3.out, (H0.out.below HB3.out).boxed X3.out, by rw [show Pt.held S 2 1 = (Pt.nu S 1).map Int.ofNat from hhel.out]; exact HO3.out.boxed X3.out, (H2.out.below HB3.out).boxed X3.out, (HBE.out.trans (HB3.out.mono HBE.out.size)).drew.setCell (p := ⟨w.heap.size, 1, none⟩) (Nat.le_refl _) _⟩
            case measure => omega
        · have hR := Lib.hid (hbad.out hE)
          have HE := Lib.hid hE
          obtain ⟨x, hx⟩ : ∃ x, x = Pt.er S 1 := ⟨_, rfl⟩
          have hne : ((x : Int) != 0) = true := by rw [hx]; simpa using hE
          have hrc2 : Hid (∀ wx : World, Calls Try.prog 31 #[.string r] wx fun e w' => ∃ v, e = .returned (.tuple #[v, .int .i64 (z : Int), .int .i64 x]) ∧ Below wx.heap.size wx w') := fun wx => by
            have h := hrc.out wx
            rw [← HZ.out, show (Bp.rdPack (Pt.st S 1)).2.2 = x from hx.symm] at h
            exact h.mono fun e w' ⟨v, e1, _, e2⟩ => ⟨v, e1, e2⟩
          rw [← hx] at hR HE
          clear hE hrc hx
          go_wp2_with (first
            | (go_at_call 32; refine htm.out.mono ?_; rintro e1 w1 ⟨rfl, hb1⟩; have HB1 := Lib.hid hb1; clear hb1)
            | (go_at_call 31; refine (hrc2.out _).mono ?_; rintro e1 w3 ⟨v3, rfl, hb3⟩; have HB3 := Lib.hid (HB1.out.trans (hb3.mono HB1.out.size)); clear hb3))
          go_ret2
          exact ReadP.bad hR.out HE.out (HBE.out.trans (HB3.out.mono HBE.out.size))
    · have hrs := hST.out 2 r hrd.out
      have htm := Lib.hid (tooMany_any wr 2 r (by omega) (by omega))
      rw [hrd.out] at htm
      have hzl := Pt.rd_le (Pt.st S 2)
      rw [← hrd.out, arr_len, hrd.out] at hzl
      obtain ⟨z, hz⟩ : ∃ z, z = (Bp.rdPack (Pt.st S 2)).2.1 := ⟨_, rfl⟩
      rw [← hz] at hzl
      have HZ := Lib.hid hz
      have hnx : Hid ((r.extract z r.size).data.toList = Pt.st S 3) := by
        have h := rest_data r ((z : Nat) : Int)
        unfold rest at h
        rw [Int.toNat_natCast] at h
        rw [h, hz, hrd.out]
        rfl
      have hbad : Hid (Pt.er S 2 ≠ 0 → Pt.read S = ([], Pt.er S 2)) := fun h => by rw [Pt.read_st, if_neg (by simpa using her.out 0 (by omega)), if_neg (by simpa using her.out 1 (by omega)), if_pos h]
      have hok : Hid (Pt.er S 2 = 0 → ∀ j, j < 3 → Pt.er S j = 0) := fun h j hj => by
        rcases Nat.lt_or_ge j 2 with h1 | h1
        · exact her.out j h1
        · obtain rfl : j = 2 := by omega
          exact h
      have hsk := Lib.hid (fun wx : World => skim_any wx r (by omega))
      have hrc := Lib.hid (fun wx : World => HRC.out wx r (by omega))
      rw [hrd.out] at hsk hrc
      clear hz
      by_cases hM : Pt.many 2 (Pt.st S 2)
      · have hany : Hid (Pt.anyM S 3 = true) := by show (Pt.anyM S 2 || decide (Pt.many 2 (Pt.st S 2))) = true; rw [decide_eq_true hM, Bool.or_true]
        have hhel : Hid (Pt.hel S 2 = []) := if_pos hM
        rw [decide_eq_true hM] at htm
        clear hM hrc
        by_cases hE : Pt.er S 2 = 0
        · have HE := Lib.hid hE
          have hsk2 : Hid (∀ wx : World, Calls Try.prog 33 #[.string r] wx fun e w' => e = .returned (.tuple #[.slice none 0 0, .int .i64 (z : Int), .int .i64 0]) ∧ Below wx.heap.size wx w') := fun wx => by
            have h := hsk.out wx
            rw [← HZ.out, show (Bp.rdPack (Pt.st S 2)).2.2 = 0 from hE] at h
            exact h
          clear hE hsk
          go_wp2_with (first
            | (go_at_call 32; refine htm.out.mono ?_; rintro e1 w1 ⟨rfl, hb1⟩; have HB1 := Lib.hid hb1; clear hb1)
            | (go_at_call 33; refine (hsk2.out _).mono ?_; rintro e1 w3 ⟨rfl, hb3⟩; have HB3 := Lib.hid (HB1.out.trans (hb3.mono HB1.out.size)); clear hb3))
          have X3 : Hid (w3.heap[w.heap.size]? = some (.cells #[v0, v1, v2] 58 (0, 0))) := (HB3.out.block _ (blk_lt HX.out)).trans HX.out
          obtain ⟨x0, x1, x2, x3⟩ := Tri3.cells X3.out
          go_region
          all_goals
            go_wp2_with fail
            go_roundg 0
            case rel => exact ⟨3, r.extract z r.size, v0, v1, .slice none 0 0, by omega, rfl, by go_num, rfl, by rw [hany.out], hnx, hok.out HE.out, heap_set _ _ _ _ _ _ _ X3.out, (H0.out.below HB3.out).boxed X3.out, (H1.out.below HB3.out).boxed X3.out, by rw [show Pt.held S 3 2 = [] from hhel.out]; exact OwnI.nil _ _, (HBE.out.trans (HB3.out.mono HBE.out.size)).drew.setCell (p := ⟨w.heap.size, 2, none⟩) (Nat.le_refl _) _⟩
            case measure => omega
        · have hR := Lib.hid (hbad.out hE)
          have HE := Lib.hid hE
          obtain ⟨x, hx⟩ : ∃ x, x = Pt.er S 2 := ⟨_, rfl⟩
          have hne : ((x : Int) != 0) = true := by rw [hx]; simpa using hE
          have hsk2 : Hid (∀ wx : World, Calls Try.prog 33 #[.string r] wx fun e w' => e = .returned (.tuple #[.slice none 0 0, .int .i64 (z : Int), .int .i64 x]) ∧ Below wx.heap.size wx w') := fun wx => by
            have h := hsk.out wx
            rw [← HZ.out, show (Bp.rdPack (Pt.st S 2)).2.2 = x from hx.symm] at h
            exact h
          rw [← hx] at hR HE
          clear hE hsk hx
          go_wp2_with (first
            | (go_at_call 32; refine htm.out.mono ?_; rintro e1 w1 ⟨rfl, hb1⟩; have HB1 := Lib.hid hb1; clear hb1)
            | (go_at_call 33; refine (hsk2.out _).mono ?_; rintro e1 w3 ⟨rfl, hb3⟩; have HB3 := Lib.hid (HB1.out.trans (hb3.mono HB1.out.size)); clear hb3))
          go_ret2
          exact ReadP.bad hR.out HE.out (HBE.out.trans (HB3.out.mono HBE.out.size))
      · have hany : Hid (Pt.anyM S 3 = Pt.anyM S 2) := by show (Pt.anyM S 2 || decide (Pt.many 2 (Pt.st S 2))) = _; rw [decide_eq_false hM, Bool.or_false]
        have hhel : Hid (Pt.hel S 2 = (Pt.nu S 2).map Int.ofNat) := if_neg hM
        rw [decide_eq_false hM] at htm
        clear hM hsk
        by_cases hE : Pt.er S 2 = 0
        · have HE := Lib.hid hE
          have hrc2 : Hid (∀ wx : World, Calls Try.prog 31 #[.string r] wx fun e w' => ∃ v, e = .returned (.tuple #[v, .int .i64 (z : Int), .int .i64 0]) ∧ OwnI w' wx.heap.size v ((Pt.nu S 2).map Int.ofNat) ∧ Below wx.heap.size wx w') := fun wx => by
            have h := hrc.out wx
            rw [← HZ.out, show (Bp.rdPack (Pt.st S 2)).2.2 = 0 from hE] at h
            exact h
          clear hE hrc
          go_wp2_with (first
            | (go_at_call 32; refine htm.out.mono ?_; rintro e1 w1 ⟨rfl, hb1⟩; have HB1 := Lib.hid hb1; clear hb1)
            | (go_at_call 31; refine (hrc2.out _).mono ?_; rintro e1 w3 ⟨v3, rfl, hO3, hb3⟩; have HB3 := Lib.hid (HB1.out.trans (hb3.mono HB1.out.size)); have HO3 := Lib.hid (hO3.base (Nat.le_trans HBE.out.size HB1.out.size)); obtain ⟨a3, c3, f3⟩ := hO3.form; obtain ⟨n3, hn3⟩ : ∃ n3, n3 = ((Pt.nu S 2).map Int.ofNat).length := ⟨_, rfl⟩; rw [← hn3] at f3; clear hn3 hO3 hb3; subst f3))
          have X3 : Hid (w3.heap[w.heap.size]? = some (.cells #[v0, v1, v2] 58 (0, 0))) := (HB3.out.block _ (blk_lt HX.out)).trans HX.out
          obtain ⟨x0, x1, x2, x3⟩ := Tri3.cells X3.out
          go_region
          all_goals
            go_wp2_with fail
            go_roundg 0
            case rel => exact ⟨3, r.extract z r.size, v0, v1, .slice a3 n3 c3, by omega, rfl, by go_num, rfl, by rw [hany.out], hnx, hok.out HE.out, heap_set _ _ _ _ _ _ _ X3.out, (H0.out.below HB3.out).boxed X3.out, (H1.out.below HB3.out).boxed X3.out, by rw [show Pt.held S 3 2 = (Pt.nu S 2).map Int.ofNat from hhel.out]; exact HO3.out.boxed X3.out, (HBE.out.trans (HB3.out.mono HBE.out.size)).drew.setCell (p := ⟨w.heap.size, 2, none⟩) (Nat.le_refl _) _⟩
            case measure => omega
        · have hR := Lib.hid (hbad.out hE)
          have HE := Lib.hid hE
          obtain ⟨x, hx⟩ : ∃ x, x = Pt.er S 2 := ⟨_, rfl⟩
          have hne : ((x : Int) != 0) = true := by rw [hx]; simpa using hE
          have hrc2 : Hid (∀ wx : World, Calls Try.prog 31 #[.string r] wx fun e w' => ∃ v, e = .returned (.tuple #[v, .int .i64 (z : Int), .int .i64 x]) ∧ Below wx.heap.size wx w') := fun wx => by
            have h := hrc.out wx
            rw [← HZ.out, show (Bp.rdPack (Pt.st S 2)).2.2 = x from hx.symm] at h
            exact h.mono fun e w' ⟨v, e1, _, e2⟩ => ⟨v, e1, e2⟩
          rw [← hx] at hR HE
          clear hE hrc hx
          go_wp2_with (first
            | (go_at_call 32; refine htm.out.mono ?_; rintro e1 w1 ⟨rfl, hb1⟩; have HB1 := Lib.hid hb1; clear hb1)
            | (go_at_call 31; refine (hrc2.out _).mono ?_; rintro e1 w3 ⟨v3, rfl, hb3⟩; have HB3 := Lib.hid (HB1.out.trans (hb3.mono HB1.out.size)); clear hb3))
          go_ret2
          exact ReadP.bad hR.out HE.out (HBE.out.trans (HB3.out.mono HBE.out.size))
    · have hrs := hST.out 3 r hrd.out
      have E0 : Pt.er S 0 = 0 := her.out 0 (by omega)
      have E1 : Pt.er S 1 = 0 := her.out 1 (by omega)
      have E2 : Pt.er S 2 = 0 := her.out 2 (by omega)
      have hread : Hid (Pt.read S = if Pt.st S 3 ≠ [] then ([], 5) else Pt.mk (Pt.nu S 0) (Pt.nu S 1) (Pt.nu S 2)) := by
        show _ = _
        rw [Pt.read_st, if_neg (by simpa using E0), if_neg (by simpa using E1), if_neg (by simpa using E2)]
      by_cases hr0 : r.size = 0
      · have hT := empty_true r hr0
        have hst3 : Pt.st S 3 = [] := by
          rw [← hrd.out]
          exact List.length_eq_zero_iff.1 (by rw [arr_len]; exact hr0)
        have hread2 : Hid (Pt.read S = Pt.mk (Pt.nu S 0) (Pt.nu S 1) (Pt.nu S 2)) := by
          show _ = _
          rw [hread.out, if_neg (by simpa using hst3)]
        obtain ⟨bN, hbN⟩ : ∃ bN : List Nat, bN = if Pt.many 1 (Pt.st S 1) then [] else Pt.nu S 1 := ⟨_, rfl⟩
        have hb1 : Hid (Pt.held S 3 1 = bN.map Int.ofNat) := by
          show (if Pt.many 1 (Pt.st S 1) then [] else (Pt.nu S 1).map Int.ofNat) = _
          rw [hbN]
          split <;> rfl
        have hbl : Hid (∀ x ∈ bN, x ≤ 9223372036854775807) := by
          intro x hx
          rw [hbN] at hx
          split at hx
          · cases hx
          · have := Pt.nu_lt E1 x hx
            omega
        have hl0 : Hid ((Pt.held S 3 0).length ≤ 1073741824) := by
          show (if Pt.many 0 (Pt.st S 0) then [] else (Pt.nu S 0).map Int.ofNat).length ≤ _
          split
          · exact Nat.zero_le _
          · rename_i hm
            have := Pt.nu_len E0 hm
            rw [List.length_map]
            simp at this
            omega
        have hl2 : Hid ((Pt.held S 3 2).length ≤ 1073741824) := by
          show (if Pt.many 2 (Pt.st S 2) then [] else (Pt.nu S 2).map Int.ofNat).length ≤ _
          split
          · exact Nat.zero_le _
          · rename_i hm
            have := Pt.nu_len E2 hm
            rw [List.length_map]
            simp at this
            omega
        have hH1 := H1.out
        rw [hb1.out] at hH1
        have hpo := Lib.hid (posts_any wr v0 v1 v2 (Pt.held S 3 0) (Pt.held S 3 2) bN H0.out.intL hH1.intL H2.out.intL hl0.out hl2.out hbl.out)
        obtain ⟨a0, c0, f0⟩ := H0.out.form
        obtain ⟨a1, c1, f1⟩ := H1.out.form
        obtain ⟨a2, c2, f2⟩ := H2.out.form
        obtain ⟨n0, g0⟩ : ∃ n0, n0 = (Pt.held S 3 0).length := ⟨_, rfl⟩
        obtain ⟨n1, g1⟩ : ∃ n1, n1 = (Pt.held S 3 1).length := ⟨_, rfl⟩
        obtain ⟨n2, g2⟩ : ∃ n2, n2 = (Pt.held S 3 2).length := ⟨_, rfl⟩
        rw [← g0] at f0
        rw [← g1] at f1
        rw [← g2] at f2
        have X3 := HX.out
        clear g0 g1 g2 hH1
        subst f0 f1 f2
        obtain ⟨x0, x1, x2, x3⟩ := box_at HX.out
        by_cases hA : Pt.anyM S 3 = true
        · have hmk := Lib.hid (Pt.mk_any E0 E2 E1 hA)
          have hR : Hid (Pt.read S = ([], 3)) := by show _ = _; rw [hread2.out]; exact hmk.out
          rw [hA]
          clear hA hmk E0 E1 E2 hbN hst3 hr0 X3
          go_wp2_with (go_at_call 34; refine hpo.out.mono ?_; rintro e1 w3 ⟨v3, rfl, hb3, _⟩; have HB3 := Lib.hid hb3; clear hb3)
          go_ret2
          exact ReadP.bad hR.out (by decide) (HBE.out.trans (HB3.out.mono HBE.out.size))
        · have hA' : Pt.anyM S 3 = false := by simpa using hA
          have hm3 : ¬ Pt.many 0 (Pt.st S 0) ∧ ¬ Pt.many 1 (Pt.st S 1) ∧ ¬ Pt.many 2 (Pt.st S 2) := by
            simpa [Pt.anyM, and_assoc] using hA'
          have e0 : Pt.held S 3 0 = (Pt.nu S 0).map Int.ofNat := if_neg hm3.1
          have e2 : Pt.held S 3 2 = (Pt.nu S 2).map Int.ofNat := if_neg hm3.2.2
          have e1 : bN = Pt.nu S 1 := by rw [hbN, if_neg hm3.2.1]
          have hR := Pt.mk_fit (Pt.nu S 0) (Pt.nu S 1) (Pt.nu S 2)
          rw [← hread2.out, ← e0, ← e2, ← e1] at hR
          rw [hA']
          cases hF : Pt.fit (Pt.held S 3 0) bN (Pt.held S 3 2)
          · rw [hF] at hpo
            have hR2 : Hid (Pt.read S = ([], 3)) := by
              show _ = _
              rw [hR, if_neg]
              rintro ⟨q, _⟩
              rw [hF] at q
              cases q
            clear hF hR hA hA' hm3 e0 e1 e2 E0 E1 E2 hbN hst3 hr0 X3
            go_wp2_with (go_at_call 34; refine hpo.out.mono ?_; rintro e1 w3 ⟨v3, rfl, hb3, _⟩; have HB3 := Lib.hid hb3; clear hb3)
            go_ret2
            exact ReadP.bad hR2.out (by decide) (HBE.out.trans (HB3.out.mono HBE.out.size))
          · have hF2 := hF
            unfold Pt.fit at hF2
            rw [Bool.and_eq_true] at hF2
            obtain ⟨q1, q2⟩ := hF2
            have q1 := of_decide_eq_true q1
            obtain ⟨t, ht⟩ := Option.isSome_iff_exists.1 q2
            rw [hF] at hpo
            have hpo2 : Hid (Calls Try.prog 34 #[.agg #[.slice a0 n0 c0, .slice a1 n1 c1, .slice a2 n2 c2]] wr fun e w' => ∃ g vs, e = .returned (.tuple #[.slice (some ⟨g, 0, none⟩) (Pt.held S 3 0).length (Pt.held S 3 0).length, .bool true]) ∧ Below wr.heap.size wr w' ∧ PRow w' wr.heap.size g (Pt.held S 3 0).length (List.zipWith Pt.Po.mk (sm 0 (Pt.held S 3 0)) t) vs) := by
              refine hpo.out.mono ?_
              rintro e w' ⟨v', rfl, hb, hp⟩
              obtain ⟨g, vs, rfl, hP⟩ := hp t q1 ht
              exact ⟨g, vs, rfl, hb, hP⟩
            have hzl : Hid ((List.zipWith Pt.Po.mk (sm 0 (Pt.held S 3 0)) t).length = (Pt.held S 3 0).length) := by
              have hh : t.length = bN.length := by
                obtain ⟨i1, _, _⟩ := Pt.cut_one (b := bN) (c := Pt.held S 3 2) (t := t) (by
                  rw [e2]
                  intro z hz
                  obtain ⟨y, hy, rfl⟩ := List.mem_map.1 hz
                  have := Pt.nu_lt E2 y hy
                  show _ ≤ ((y : Nat) : Int) ∧ ((y : Nat) : Int) ≤ _
                  omega) ht
                rw [i1, List.length_map]
              show _ = _
              rw [List.length_zipWith, sm_length]
              omega
            have hR3 : Hid (Pt.read S = if Pt.chk (-1) (List.zipWith Pt.Po.mk (sm 0 (Pt.held S 3 0)) t) = 0 then (List.zipWith Pt.Po.mk (sm 0 (Pt.held S 3 0)) t, 0) else ([], 3)) := by
              show _ = _
              rw [hR]
              by_cases hc : Pt.chk (-1) (List.zipWith Pt.Po.mk (sm 0 (Pt.held S 3 0)) t) = 0
              · rw [if_pos ⟨hF, t, ht, hc⟩, if_pos hc, ht]
                rfl
              · rw [if_neg, if_neg hc]
                rintro ⟨_, t', ht', hc'⟩
                rw [ht] at ht'
                cases ht'
                exact hc hc'
            clear hpo hF hR q1 q2 ht hA hA' hm3 e0 e1 e2 E0 E1 E2 hbN hst3 hr0 X3
            generalize List.zipWith Pt.Po.mk (sm 0 (Pt.held S 3 0)) t = D at *
            generalize (Pt.held S 3 0).length = N at *
            by_cases hc : Pt.chk (-1) D = 0
            · rw [if_pos hc] at hR3
              go_wp2_with (first
                | (go_at_call 34; refine hpo2.out.mono ?_; rintro e1 w3 ⟨g3, vs3, rfl, hb3, hP3⟩; have HB3 := Lib.hid hb3; have HP3 := Lib.hid hP3; have hck0 := check_any w3 _ _ _ (hP3.whole hzl.out (by have := hl0.out; omega)).po; rw [hc] at hck0; have hck := Lib.hid hck0; clear hck0; clear hb3 hP3)
                | (go_at_call 14; refine hck.out.mono ?_; rintro e1 w4 ⟨rfl, hb4⟩; have HB4 := Lib.hid hb4; clear hb4))
              go_ret2
              refine ⟨_, by rw [hR3.out]; rfl, HBE.out.trans ((HB3.out.trans (HB4.out.mono HB3.out.size)).mono HBE.out.size), .inr ⟨by rw [hR3.out], g3, N, vs3, rfl, by rw [hR3.out]; exact hzl.out.symm, ?_⟩⟩
              rw [hR3.out]
              exact (HP3.out.keep fun q hq => HB4.out.block q hq).base' HBE.out.size
            · have hne : ((Pt.chk (-1) D : Int) != 0) = true := by simpa using hc
              rw [if_neg hc] at hR3
              obtain ⟨x, hx⟩ : ∃ x, x = Pt.chk (-1) D := ⟨_, rfl⟩
              rw [← hx] at hne
              go_wp2_with (first
                | (go_at_call 34; refine hpo2.out.mono ?_; rintro e1 w3 ⟨g3, vs3, rfl, hb3, hP3⟩; have HB3 := Lib.hid hb3; have HP3 := Lib.hid hP3; have hck0 := check_any w3 _ _ _ (hP3.whole hzl.out (by have := hl0.out; omega)).po; rw [← hx] at hck0; have hck := Lib.hid hck0; clear hck0 hx hc; clear hb3 hP3)
                | (go_at_call 14; refine hck.out.mono ?_; rintro e1 w4 ⟨rfl, hb4⟩; have HB4 := Lib.hid hb4; clear hb4))
              go_ret2
              exact ReadP.bad hR3.out (by decide) (HBE.out.trans ((HB3.out.trans (HB4.out.mono HB3.out.size)).mono HBE.out.size))
      · have hF := empty_false r (by omega)
        have hst3 : Pt.st S 3 ≠ [] := by
          rw [← hrd.out, ← List.length_pos_iff, arr_len]
          omega
        have hR : Hid (Pt.read S = ([], 5)) := by show _ = _; rw [hread.out, if_pos hst3]
        clear hst3 hr0 E0 E1 E2
        go_wp2_with fail
        go_ret2
        exact ReadP.bad hR.out (by decide) HBE.out
end Go.Proofs.Ytokdjaljeckghaa
