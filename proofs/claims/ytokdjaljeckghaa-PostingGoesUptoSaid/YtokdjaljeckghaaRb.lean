/-
  A cursor, called by any script: the walk of the statement.
-/
import Derived.Test.YtokdjaljeckghaaQh
import Derived.Test.YtokdjaljeckghaaRa
import Derived.Deep.DeepCutAuto
import Derived.BigQuiet
namespace Go.Proofs.Ytokdjaljeckghaa
open Go.RowKit
theorem OwnP.wo' {w : World} {B : Nat} {v : Value} {d : List Pt.Po} {vs : List Value} (h : OwnP w B v d vs) : ∃ a cap, v = .slice a d.length cap ∧ d.length ≤ cap ∧ cap ≤ 9223372036854775807 ∧ (0 < d.length → ∃ g, a = some ⟨g, 0, none⟩ ∧ Wo w B w.heap.size g d.length vs) := by
  by_cases h0 : 0 < d.length
  · obtain ⟨g, cap, h1, h2, h3, h4⟩ := h.wo h0
    exact ⟨_, cap, h1, h2, h3, fun _ => ⟨g, rfl, h4⟩⟩
  · obtain ⟨_, a, cap, h1, h2, h3, _⟩ := h.opened
    exact ⟨a, cap, h1, h2, h3, fun q => absurd q h0⟩
theorem Wo.list {w : World} {B C g n : Nat} {vs : List Value} (h : Wo w B C g n vs) (k : Nat) (hv : k < vs.length) (a : Option Addr) (m c : Nat) (f : vs[k] = .slice a m c) (h0 : 0 < m) : ∃ q, a = some ⟨q, 0, none⟩ ∧ B ≤ q ∧ q < C ∧ ∃ cs : Array Value, w.heap[q]? = some (.cells cs 3 (0, 0)) ∧ m ≤ cs.size := by
  obtain ⟨a1, m1, c1, q, q1, q2, q3, q4⟩ := h.each k hv
  rw [f] at q1
  injection q1 with e1 e2 e3
  subst e1 e2 e3
  exact ⟨q, q4 h0⟩
theorem TowM.keepR {w w' : World} {R B : Nat} {v : Value} {T : List (List Int)} {vs : List Value} (h : TowM w R B v T vs) (hR : B ≤ R) (e : ∀ k, B ≤ k → k < w.heap.size → w'.heap[k]? = w.heap[k]?) : TowM w' R B v T vs :=
  ⟨ownsRow_keep h.own fun k hk => e k (Nat.le_trans hR (h.own.lt k hk).1) (h.own.lt k hk).2, h.len, fun j h1 h2 => (h.each j h1 h2).keepB fun k hk => e k (World.ownsRow.lt (h.each j h1 h2) k hk).1 (World.ownsRow.lt (h.each j h1 h2) k hk).2⟩
/-- A cursor stays where only what is older than its memory turns. -/
theorem CurM.kept {w w' : World} {B p : Nat} {d : List Pt.Po} {k : Int} (h : CurM w B p d k) (e : ∀ q, B ≤ q → q < w.heap.size → w'.heap[q]? = w.heap[q]?) : CurM w' B p d k := by
  obtain ⟨tv, pv, T, vT, vP, R, h1, h2, h3, h4, h5, h6⟩ := h.mem
  exact ⟨h.base, ⟨tv, pv, T, vT, vP, R, (e p h.base (blk_lt h1)).trans h1, h2, h3.keepR h2 e, h4, h5, h6.keepR (Nat.le_refl _) e⟩, h.ok⟩
/-- A cursor, and the list that it was made of. -/
structure GoA (w : World) (C : Nat) (wx : World) (a : Option Addr) (n : Nat) (vs : List Value) (p : Nat) (d : List Pt.Po) : Prop where
  old : Below w.heap.size w wx
  cur : CurM wx C p d (-1)
  wo : 0 < n → ∃ g, a = some ⟨g, 0, none⟩ ∧ Wo wx w.heap.size C g n vs
theorem GoA.setI {w : World} {C : Nat} {wx : World} {g n : Nat} {vs : List Value} {p : Nat} {d : List Pt.Po} (h : GoA w C wx (some ⟨g, 0, none⟩) n vs p d) (q k : Nat) (x : Value) (q1 : w.heap.size ≤ q) (q2 : q < C) (hq : ∃ cs : Array Value, wx.heap[q]? = some (.cells cs 3 (0, 0))) : GoA w C (wx.setCell ⟨q, k, none⟩ x) (some ⟨g, 0, none⟩) n vs p d :=
  ⟨h.old.setCell (p := ⟨q, k, none⟩) q1 x, h.cur.kept fun i hi _ => heap_other _ _ _ _ _ (by omega), fun h0 => by
    obtain ⟨g', e, hw⟩ := h.wo h0
    exact ⟨g', e, hw.setI q k x hq⟩⟩
theorem GoA.setD {w : World} {C : Nat} {wx : World} {g n : Nat} {vs : List Value} {p : Nat} {d : List Pt.Po} (h : GoA w C wx (some ⟨g, 0, none⟩) n vs p d) (k : Nat) (x : Value) (h0 : 0 < n) : GoA w C (wx.setCell ⟨g, k * 2, none⟩ x) (some ⟨g, 0, none⟩) n vs p d := by
  obtain ⟨g', e, hw⟩ := h.wo h0
  obtain rfl : g = g' := by simpa using e
  exact ⟨h.old.setCell (p := ⟨g, k * 2, none⟩) hw.base x, h.cur.kept fun i hi _ => heap_other _ _ _ _ _ (by have := hw.top; omega), fun _ => ⟨g, rfl, hw.setD k x⟩⟩
/-- A posting in a box, its places in memory of the call's own. -/
structure PoB (W wx : World) (bx : Nat) (x : Int) (a : Option Addr) (m c : Nat) : Prop where
  old : Below W.heap.size W wx
  box : wx.heap[bx]? = some (.cells #[.int .i64 x, .slice a m c] 40 (0, 0))
  cap : m ≤ c ∧ c ≤ 9223372036854775807
  lst : 0 < m → ∃ q, a = some ⟨q, 0, none⟩ ∧ W.heap.size ≤ q ∧ ∃ cs : Array Value, wx.heap[q]? = some (.cells cs 3 (0, 0)) ∧ m ≤ cs.size
theorem PoB.set {W wx : World} {bx : Nat} {x : Int} {q m c : Nat} (h : PoB W wx bx x (some ⟨q, 0, none⟩) m c) (hq : W.heap.size ≤ q) (hk : ∃ cs : Array Value, wx.heap[q]? = some (.cells cs 3 (0, 0))) (j : Nat) (u : Value) : PoB W (wx.setCell ⟨q, j, none⟩ u) bx x (some ⟨q, 0, none⟩) m c := by
  obtain ⟨cs, hk⟩ := hk
  refine ⟨h.old.setCell (p := ⟨q, j, none⟩) hq u, (heap_other _ _ _ _ _ (kinds_ne h.box hk (by decide))).trans h.box, h.cap, fun h0 => ?_⟩
  obtain ⟨q', e, e1, e2⟩ := h.lst h0
  exact ⟨q', e, e1, int_set e2⟩
theorem PoB.below {W wx w' : World} {bx : Nat} {x : Int} {a : Option Addr} {m c : Nat} (h : PoB W wx bx x a m c) (hb : Below wx.heap.size wx w') : PoB W w' bx x a m c :=
  ⟨h.old.trans (hb.mono h.old.size), (hb.block _ (blk_lt h.box)).trans h.box, h.cap, fun h0 => by
    obtain ⟨q, e, e1, cs, e2, e3⟩ := h.lst h0
    exact ⟨q, e, e1, cs, (hb.block _ (blk_lt e2)).trans e2, e3⟩⟩
set_option maxRecDepth 100000 in
set_option maxHeartbeats 8000000 in
theorem goes14_walk (w : World) (F : Nat → Prop) (v u : Value) (d : List Pt.Po) (S : List Int) (h : PoS F w v d) (hS : IntS w u S) (hn1 : d.length ≤ 1048576) (hn2 : ∀ p ∈ d, p.ats.length ≤ 1048576) :
    Calls Try.prog 6 #[v, u] w fun e w' => e = .returned (.bool true) ∧ Below w.heap.size w w' := by
  have haw := Lib.hid (fun w => awake14_any w)
  have hcp := Lib.hid (copyR_any w F v d h (by omega) (fun p hp => by have := hn2 p hp; omega))
  have hnw := Lib.hid (fun (wx : World) (v1 : Value) (hb : PoS (fun g => w.heap.size ≤ g) wx v1 d) => new_any wx _ v1 d hb)
  have hcr := Lib.hid (fun (wx : World) (hb : Below w.heap.size w wx) => checkR_any wx F v d (h.below hb))
  have hP := Lib.hid h
  obtain ⟨aS, cS, rfl, s1, s2, hsc⟩ := hS.intF.cells
  obtain ⟨m, hm⟩ : ∃ m, m = S.length := ⟨_, rfl⟩
  have HS := Lib.hid hsc
  have HM := Lib.hid hm
  rw [← hm] at s1 ⊢
  clear hsc hm hS
  obtain ⟨a, cap, rfl, h1, h2, hv⟩ := h
  obtain ⟨n, hn⟩ : ∃ n, n = d.length := ⟨_, rfl⟩
  have HU := Lib.hid hv
  have HN := Lib.hid hn
  rw [← hn] at h1 hcp hcr hP hn1 ⊢
  clear hv hn hn2
  have hCP : Hid (Calls Try.prog 10 #[.slice a n cap] w fun e w' => ∃ a' c' vs, e = .returned (.slice a' n c') ∧ n ≤ c' ∧ c' ≤ 9223372036854775807 ∧ PoS (fun g => w.heap.size ≤ g) w' (.slice a' n c') d ∧ (0 < n → ∃ g, a' = some ⟨g, 0, none⟩ ∧ Wo w' w.heap.size w'.heap.size g n vs) ∧ Below w.heap.size w w') := by
    refine hcp.out.mono ?_
    rintro e w1 ⟨v1, vs1, rfl, hO, hb⟩
    obtain ⟨a1, c1, rfl, q2, q3, q4⟩ := hO.wo'
    have hpo := hO.po
    rw [← HN.out] at q2 q4 hpo ⊢
    exact ⟨a1, c1, vs1, rfl, q2, q3, hpo, q4, hb⟩
  clear hcp
  by_cases hc : Pt.chk (-1) d = 0
  · have hNa : Hid (∀ W v1, PoS (fun g => w.heap.size ≤ g) W v1 d → Calls Try.prog 19 #[v1] W fun e w' => ∃ p, e = .returned (.tuple #[.pointer (some ⟨p, 0, none⟩), .int .i64 0]) ∧ CurM w' W.heap.size p d (-1) ∧ Below W.heap.size W w') := fun W v1 hW => by
      refine (hnw.out W v1 hW).mono ?_
      rintro e w1 ⟨hb, (⟨q1, _⟩ | ⟨_, p, q2, q3⟩)⟩
      · exact absurd hc q1
      · exact ⟨p, q2, q3, hb⟩
    clear hnw hc hcr
    go_enter Try.func6, Try.ntmps6
    go_wp2_with (first
      | (go_at_call 10; refine hCP.out.mono ?_; rintro e1 w1 ⟨a1, c1, vs1, rfl, hn1c, hc1m, hpo1, hwo1, hb1⟩; have HB1 := Lib.hid hb1; have HP1 := Lib.hid hpo1; have HW1 := Lib.hid hwo1; clear hb1 hpo1 hwo1 hCP)
      | (go_at_call 19; refine (hNa.out _ _ HP1.out).mono ?_; rintro e1 w2 ⟨p, rfl, hC2, hb2⟩; have HC2 := Lib.hid hC2; have HB2 := Lib.hid hb2; clear hC2 hb2 hNa)
      | (go_at_call 13; refine (haw.out _).mono ?_; rintro e1 w3 ⟨rfl, hb3⟩; have HC3 := Lib.hid (HC2.out.below hb3); have HB3 := Lib.hid (HB2.out.trans (hb3.mono HB2.out.size)); clear hb3))
    have HG3 : Hid (GoA w w1.heap.size w3 a1 n vs1 p d) := ⟨HB1.out.trans (HB3.out.mono HB1.out.size), HC3.out, fun h0 => by
      obtain ⟨g, e, hw⟩ := HW1.out h0
      exact ⟨g, e, hw.keep fun k _ hk => HB3.out.block k hk⟩⟩
    have HC : Hid (w.heap.size ≤ w1.heap.size) := HB1.out.size
    obtain ⟨C, hCC⟩ : ∃ C, C = w1.heap.size := ⟨_, rfl⟩
    rw [← hCC] at HG3 HC
    clear HC2 HC3 HB1 HB2 HB3 HW1 HP1 hCC
    go_loopg [8] n (fun g i wx => ∃ k : Nat, k ≤ n ∧ g = n - k ∧ i = .int .i64 k ∧ Hid (GoA w C wx a1 n vs1 p d))
    case atStart => exact ⟨0, Nat.zero_le _, rfl, rfl, HG3⟩
    case round =>
      clear HG3
      obtain ⟨k, hk, rfl, rfl, HG⟩ := hrel
      by_cases hkn : k < n
      · have i2 : (k : Int) < (n : Int) := by omega
        obtain ⟨gl, rfl, hw⟩ := HG.out.wo (by omega)
        obtain ⟨⟨hvl, e1⟩, _, _⟩ := hw.row k hkn
        obtain ⟨a', m', c', q', f1, f2, f3, _⟩ := hw.each k hvl
        have F1 := Lib.hid f1
        rw [f1] at e1
        clear hw f1
        go_wp2_with fail
        go_loopg [9] m' (fun g' jv wx => ∃ j : Nat, j ≤ m' ∧ g' = m' - j ∧ jv = .int .i64 j ∧ Hid (GoA w C wx (some ⟨gl, 0, none⟩) n vs1 p d))
        case atStart => exact ⟨0, Nat.zero_le _, rfl, rfl, HG⟩
        case round =>
          clear HG e1
          obtain ⟨j, hj, rfl, rfl, HG⟩ := hrel
          obtain ⟨gl', el, hw⟩ := HG.out.wo (by omega)
          obtain rfl : gl = gl' := by simpa using el
          obtain ⟨⟨_, e1⟩, ⟨u0, e0⟩, e2⟩ := hw.row k hkn
          rw [F1.out] at e1
          clear el
          by_cases hjm : j < m'
          · have j2 : (j : Int) < (m' : Int) := by omega
            obtain ⟨q, rfl, q1, q2, cs, q3, q4⟩ := hw.list k hvl _ _ _ F1.out (by omega)
            obtain ⟨⟨u1, y1⟩, y2⟩ := int_at q3 q4 j hjm
            have HG2 : Hid (GoA w C (wr.setCell ⟨q, j, none⟩ (.int .i64 (-9))) (some ⟨gl, 0, none⟩) n vs1 p d) := HG.out.setI q j _ q1 q2 ⟨cs, q3⟩
            clear hw q3 q4 HG e0
            go_wp2_with fail
            go_roundg (m' - (j + 1))
            case rel => exact ⟨j + 1, by omega, rfl, by go_num, HG2⟩
            case measure => omega
          · obtain rfl : j = m' := by omega
            have HG2 : Hid (GoA w C (wr.setCell ⟨gl, k * 2, none⟩ (.int .i64 (-9))) (some ⟨gl, 0, none⟩) n vs1 p d) := HG.out.setD k _ (by omega)
            have e3 := e2 (k * 2)
            clear hw HG
            go_wp2_with fail
            go_roundg (n - (k + 1))
            case rel => exact ⟨k + 1, by omega, rfl, by go_num, HG2⟩
            case measure => omega
      · obtain rfl : k = n := by omega
        have HB4 := Lib.hid HG.out.old
        have HC4 := Lib.hid HG.out.cur
        clear HG
        have hpo : Hid (Calls Try.prog 20 #[.pointer (some ⟨p, 0, none⟩)] wr fun e w' => e = .returned (.tuple #[.agg #[.int .i64 0, .slice none 0 0], .bool false]) ∧ Below wr.heap.size wr w') := by
          refine (post_any wr C p d (-1) HC4.out).mono ?_
          rintro e w' ⟨hb, (⟨_, q⟩ | ⟨j, _, _, q, _⟩)⟩
          · exact ⟨q, hb⟩
          · omega
        go_wp2_with (go_at_call 20; refine hpo.out.mono ?_; rintro e1 w5 ⟨rfl, hb5⟩; have HC5 := Lib.hid (HC4.out.below hb5); have HB5 := Lib.hid (HB4.out.trans (hb5.mono HB4.out.size)); clear hb5 hpo HC4 HB4)
        go_loopg [10, 13] m (fun g' av iv wx => ∃ (j : Nat) (t : Int), j ≤ m ∧ g' = m - j ∧ iv = .int .i64 j ∧ av = .int .i64 t ∧ Hid (-1 ≤ t ∧ t ≤ (k : Int)) ∧ Hid (CurM wx C p d t) ∧ Hid (Below w.heap.size w wx))
        case atStart => exact ⟨0, -1, Nat.zero_le _, rfl, rfl, rfl, by show _ ∧ _; omega, HC5.out.below ((Below.refl _ _).alloc (Nat.le_refl _) _), HB5.out.alloc HB5.out.size _⟩
        case round =>
          clear HC5 HB5
          obtain ⟨j, t, hj, rfl, rfl, rfl, HT, HC6, HB6⟩ := hrel
          by_cases hjm : j < m
          · have j2 : (j : Int) < (m : Int) := by omega
            by_cases hj3 : j < 300
            · have j3 : (j : Int) < 300 := by omega
              obtain ⟨gS, oS, rfl, hgS, _, hcS⟩ := HS.out (by rw [← HM.out]; omega)
              have c6 := (HB6.out.cell (p := ⟨gS, oS + j, none⟩) hgS).trans (hcS j (by rw [← HM.out]; exact hjm))
              have HPr := Lib.hid (hP.out.below HB6.out)
              clear hcS
              generalize S[j]'_ = x at c6
              have hbp : Hid (w.heap.size ≤ p) := Nat.le_trans HC.out HC6.out.base
              go_upto_if 88 with (fail)
              go_cut [10, 14] (fun s10 s14 wx => ∃ t' : Int, s10 = .int .i64 t' ∧ s14 = .bool (decide (t' < (k : Int))) ∧ Hid (0 ≤ t' ∧ t' ≤ (k : Int)) ∧ Hid (CurM wx C p d t') ∧ Hid (Below w.heap.size w wx))
              case first =>
                by_cases hx : x < 0
                · have hd : decide (x < 0) = true := decide_eq_true hx
                  have hN : Hid (Calls Try.prog 21 #[.pointer (some ⟨p, 0, none⟩)] wr fun e w' => e = .returned (.bool (decide (t + 1 < (k : Int)))) ∧ CurM w' C p d (min (t + 1) (k : Int)) ∧ Below w.heap.size wr w') := by
                    refine (next_any wr C p d t HC6.out HT.out.1 (by rw [← HN.out]; exact HT.out.2)).mono ?_
                    rintro e w' ⟨q1, q2, q3⟩
                    rw [← HN.out] at q1 q2
                    exact ⟨q1, q2, q3.2.2 _ hbp.out⟩
                  by_cases htn : t < (k : Int)
                  · have e1 : Hid (min (t + 1) (k : Int) = t + 1) := by show _ = _; omega
                    have e2 : IntKind.i64.wrap (t + 1) = t + 1 := IntWalk.i64_in _ (by have := HT.out; omega)
                    go_wp2_with (go_at_call 21; refine hN.out.mono ?_; rintro e1 w7 ⟨rfl, hC7, hb7⟩; have HC7 := Lib.hid hC7; have HB7 := Lib.hid (HB6.out.trans hb7); clear hC7 hb7 hN)
                    go_meet
                    exact ⟨t + 1, rfl, rfl, by show _ ∧ _; have := HT.out; omega, by rw [← e1.out]; exact HC7, HB7⟩
                  · have e1 : Hid (min (t + 1) (k : Int) = t) := by show _ = _; have := HT.out; omega
                    have e3 : Hid (decide (t + 1 < (k : Int)) = decide (t < (k : Int))) := by show _ = _; rw [decide_eq_false htn, decide_eq_false (by omega)]
                    go_wp2_with (go_at_call 21; refine hN.out.mono ?_; rintro e1 w7 ⟨rfl, hC7, hb7⟩; have HC7 := Lib.hid hC7; have HB7 := Lib.hid (HB6.out.trans hb7); clear hC7 hb7 hN)
                    go_meet
                    exact ⟨t, rfl, by rw [e3.out], by show _ ∧ _; have := HT.out; omega, by rw [← e1.out]; exact HC7, HB7⟩
                · have hd : decide (x < 0) = false := decide_eq_false hx
                  obtain ⟨kn, hkn2⟩ : ∃ kn : Nat, max t 0 = (kn : Int) := ⟨(max t 0).toNat, by omega⟩
                  have HK : Hid (max t 0 = (kn : Int)) := hkn2
                  have hkl : Hid (kn ≤ d.length) := by show _ ≤ _; rw [← HN.out]; have := HT.out; have := Nat.zero_le k; omega
                  obtain ⟨r, hr⟩ : ∃ r, r = Pt.adv d x kn := ⟨_, rfl⟩
                  have hrl : Hid (r ≤ k) := by show _ ≤ _; rw [hr, HN.out]; exact adv_le d x kn hkl.out
                  have hA : Hid (Calls Try.prog 22 #[.pointer (some ⟨p, 0, none⟩), .int .i64 x] wr fun e w' => e = .returned (.bool (decide ((r : Int) < (k : Int)))) ∧ CurM w' C p d (r : Int) ∧ Below w.heap.size wr w') := by
                    refine (advance_any wr C p d t HC6.out kn HK.out hkl.out x).mono ?_
                    rintro e w' ⟨q1, q2, q3⟩
                    rw [← hr] at q1 q2
                    rw [← HN.out] at q1
                    exact ⟨by rw [q1]; congr 3; simp, q2, q3.2.2 _ hbp.out⟩
                  have hR : Hid (∀ W, Below w.heap.size w W → Calls Try.prog 23 #[.slice a k cap, .int .i64 t, .int .i64 x] W fun e w' => e = .returned (.int .i64 (r : Int)) ∧ w' = W) := fun W hW => by
                    have := advR_any W F (.slice a k cap) d (hP.out.below hW) t kn (by have := HK.out; split <;> omega) (by have := hkl.out; rw [← HN.out] at this; omega) x
                    rw [← hr] at this
                    exact this
                  clear hkn2 hr
                  go_wp2_with (first
                    | (go_at_call 22; refine hA.out.mono ?_; rintro e1 w7 ⟨rfl, hC7, hb7⟩; have HC7 := Lib.hid hC7; have HB7 := Lib.hid (HB6.out.trans hb7); have c7 := (HB7.out.cell (p := ⟨gS, oS + j, none⟩) hgS).trans ((HB6.out.cell (p := ⟨gS, oS + j, none⟩) hgS).symm.trans c6); clear hC7 hb7 hA)
                    | (go_at_call 23; refine (hR.out _ HB7.out).mono ?_; rintro e1 w8 ⟨rfl, rfl⟩))
                  go_meet
                  exact ⟨(r : Int), rfl, by simp, by show _ ∧ _; have := hrl.out; omega, HC7, HB7⟩
              case rest =>
                obtain ⟨t', rfl, rfl, HT7, HC7, HB7⟩ := hcut
                clear HC6 HB6 HT c6 HPr
                by_cases htn : t' < (k : Int)
                · obtain ⟨i, rfl⟩ := Int.eq_ofNat_of_zero_le HT7.out.1
                  have i4 : (i : Int) < (k : Int) := htn
                  have hik : i < k := by omega
                  have ix : i < d.length := by rw [← HN.out]; exact hik
                  have i5 : decide ((i : Int) < (k : Int)) = true := decide_eq_true i4
                  obtain ⟨gl, o, rfl, hg, _, hcu⟩ := HU.out (by rw [← HN.out]; omega)
                  obtain ⟨z1, vat, z2, z3⟩ := hcu i ix
                  have hpo : Hid (Calls Try.prog 20 #[.pointer (some ⟨p, 0, none⟩)] wc fun e w' => ∃ va, e = .returned (.tuple #[.agg #[.int .i64 d[i].doc, va], .bool true]) ∧ OwnI w' wc.heap.size va d[i].ats ∧ Below wc.heap.size wc w') := by
                    refine (post_any wc C p d _ HC7.out).mono ?_
                    rintro e w' ⟨hb, (⟨q, _⟩ | ⟨j', hj', va, q1, q2, q3⟩)⟩
                    · exact absurd ⟨by omega, by rw [← HN.out]; exact i4⟩ q
                    · obtain rfl : i = j' := by omega
                      exact ⟨va, q2, q3, hb⟩
                  have hO : Hid (∀ W va vb, IntF (fun g => wc.heap.size ≤ g) W va d[i].ats → IntF F W vb d[i].ats → Calls Try.prog 24 #[.agg #[.int .i64 d[i].doc, va], .agg #[.int .i64 d[i].doc, vb]] W fun e w' => e = .returned (.bool true) ∧ Below W.heap.size W w') := fun W va vb e1 e2 =>
                    (oneR_any W _ F va vb _ _ _ _ e1 e2).mono fun e w' h => ⟨by rw [h.1, decide_eq_true rfl], h.2⟩
                  obtain ⟨av, cv, fv⟩ := z3.form
                  generalize d[i].doc = xd at *
                  generalize d[i].ats = l at *
                  obtain ⟨ml, hml⟩ : ∃ ml, ml = l.length := ⟨_, rfl⟩
                  have HL := Lib.hid hml
                  rw [← hml] at fv
                  subst fv
                  have Z1 := Lib.hid z1
                  have Z2 := Lib.hid z2
                  have Z3 := Lib.hid z3
                  clear hcu hml z1 z2 z3 htn
                  go_wp2_with (go_at_call 20; refine hpo.out.mono ?_; rintro e1 w8 ⟨v8, rfl, hO8, hb8⟩; obtain ⟨a8, c8, q8, f8, p1, p2, p3⟩ := hO8.blk; have HI8 := Lib.hid hO8.intF; rw [← HL.out] at f8 p1 p3; have HB8 := Lib.hid hb8; have HQ8 := Lib.hid p3; clear hO8 hb8 hpo p3; subst f8)
                  have BA : Hid (Below w8.heap.size w8 (w8.alloc (.cells #[.int .i64 xd, .slice a8 ml c8] 40))) := (Below.refl _ _).alloc (Nat.le_refl _) _
                  have z6 : (w8.alloc (.cells #[.int .i64 xd, .slice a8 ml c8] 40)).heap[w8.heap.size]? = some (.cells #[.int .i64 xd, .slice a8 ml c8] 40 (0, 0)) := Go.Deep.blk_alloc_new _ _
                  have hbx : Hid (wc.heap.size ≤ w8.heap.size) := HB8.out.size
                  obtain ⟨w9, hw9⟩ : ∃ w9, w9 = w8.alloc (.cells #[.int .i64 xd, .slice a8 ml c8] 40) := ⟨_, rfl⟩
                  obtain ⟨bx, hbx2⟩ : ∃ bx, bx = w8.heap.size := ⟨_, rfl⟩
                  rw [← hw9] at BA z6 ⊢
                  rw [← hbx2] at z6 ⊢
                  have HPB : Hid (PoB wc w9 bx xd a8 ml c8) := ⟨HB8.out.trans (BA.out.mono HB8.out.size), z6, ⟨p1, p2⟩, fun h0 => by
                    obtain ⟨e1, e2, e3, cs, e4, e5⟩ := HQ8.out h0
                    exact ⟨q8, e1, e2, cs, (BA.out.block _ e3).trans e4, e5⟩⟩
                  have HI9 := Lib.hid (HI8.out.below BA.out)
                  have HB9 : Hid (Below w.heap.size w w9) := HB7.out.trans (HPB.out.old.mono HB7.out.size)
                  have HZ9 := Lib.hid (Z3.out.below HB9.out)
                  obtain ⟨y1, y2⟩ := po_boxd z6
                  have y3 := (HB9.out.drew.cell (p := ⟨gl, o + i * 2, none⟩) hg).trans Z1.out
                  have y4 := (HB9.out.drew.cell (p := ⟨gl, o + i * 2 + 1, none⟩) hg).trans Z2.out
                  have O1 : Hid (Calls Try.prog 24 #[.agg #[.int .i64 xd, .slice a8 ml c8], .agg #[.int .i64 xd, .slice av ml cv]] w9.drew fun e w' => e = .returned (.bool true) ∧ Below w9.drew.heap.size w9.drew w') := hO.out _ _ _ (HI9.out.below (Below.refl _ _).drew) (HZ9.out.below (Below.refl _ _).drew)
                  have HBD : Hid (Below w9.heap.size w9 w9.drew) := (Below.refl _ _).drew
                  have HYY : Hid (w9.drew.cell? ⟨bx, 0, none⟩ = some (.int .i64 xd) ∧ w9.drew.cell? ⟨bx, 1, none⟩ = some (.slice a8 ml c8) ∧ w9.drew.cell? ⟨gl, o + i * 2, none⟩ = some (.int .i64 xd) ∧ w9.drew.cell? ⟨gl, o + i * 2 + 1, none⟩ = some (.slice av ml cv)) := ⟨y1, y2, y3, y4⟩
                  have i6 : (0 : Int) ≤ (i : Int) := by omega
                  have hbxl : Hid (bx < w9.heap.size ∧ gl < w9.heap.size) := ⟨blk_lt z6, Nat.lt_of_lt_of_le hg HB9.out.size⟩
                  clear hw9 BA z6 hbx2 HI8 HI9 HQ8 HB8 Z1 Z2 Z3 HZ9 hO y1 y2 y3 y4
                  refine wp_region_held_drew (S := fun W => W.cell? ⟨bx, 0, none⟩ = some (.int .i64 xd) ∧ W.cell? ⟨bx, 1, none⟩ = some (.slice a8 ml c8) ∧ W.cell? ⟨gl, o + i * 2, none⟩ = some (.int .i64 xd) ∧ W.cell? ⟨gl, o + i * 2 + 1, none⟩ = some (.slice av ml cv)) (by kernel_rfl) HYY.out (fun hHeld => ?_)
                  refine wpAnyH_take (i := 0) (fuel := 37) (oi := ⟨_, _, _, _, _, _⟩) (v := ?_) rfl (by kernel_rfl) (by kernel_rfl) (by kernel_rfl) (fun _ _ _ h => h) (Or.inl ⟨by rfl, ?_⟩) (by assumption) ?_
                  rotate_left
                  · intro w _
                    first | (go_simp; done) | (go_simp; with_reducible rfl)
                  try simp only [Act.put, List.setIfInBounds_toArray, List.set_cons_zero, List.set_cons_succ]
                  refine wpAnyH_take (i := 1) (fuel := 36) (oi := ⟨_, _, _, _, _, _⟩) (v := ?_) rfl (by kernel_rfl) (by kernel_rfl) (by kernel_rfl) (fun _ _ _ h => h) (Or.inl ⟨by rfl, ?_⟩) (by assumption) ?_
                  rotate_left
                  · intro w _
                    first | (go_simp; done) | (go_simp; with_reducible rfl)
                  try simp only [Act.put, List.setIfInBounds_toArray, List.set_cons_zero, List.set_cons_succ]
                  refine wpAnyH_take (i := 2) (fuel := 35) (oi := ⟨_, _, _, _, _, _⟩) (v := ?_) rfl (by kernel_rfl) (by kernel_rfl) (by kernel_rfl) (fun _ _ _ h => h) (Or.inl ⟨by rfl, ?_⟩) (by assumption) ?_
                  rotate_left
                  · intro w _
                    first | (go_simp; done) | (go_simp; with_reducible rfl)
                  try simp only [Act.put, List.setIfInBounds_toArray, List.set_cons_zero, List.set_cons_succ]
                  refine wpAnyH_take (i := 3) (fuel := 34) (oi := ⟨_, _, _, _, _, _⟩) (v := ?_) rfl (by kernel_rfl) (by kernel_rfl) (by kernel_rfl) (fun _ _ _ h => h) (Or.inl ⟨by rfl, ?_⟩) (by assumption) ?_
                  rotate_left
                  · intro w _
                    first | (go_simp; done) | (go_simp; with_reducible rfl)
                  try simp only [Act.put, List.setIfInBounds_toArray, List.set_cons_zero, List.set_cons_succ]
                  refine wpAnyH_take (i := 4) (fuel := 33) (oi := ⟨_, _, _, _, _, _⟩) (v := ?_) rfl (by kernel_rfl) (by kernel_rfl) (by kernel_rfl) (fun _ _ _ h => h) (Or.inl ⟨by rfl, ?_⟩) (by assumption) ?_
                  rotate_left
                  · intro w _
                    first | (go_simp; done) | (go_simp; with_reducible rfl)
                  try simp only [Act.put, List.setIfInBounds_toArray, List.set_cons_zero, List.set_cons_succ]
                  refine wpAnyH_take (i := 5) (fuel := 32) (oi := ⟨_, _, _, _, _, _⟩) (v := ?_) rfl (by kernel_rfl) (by kernel_rfl) (by kernel_rfl) (fun _ _ _ h => h) (Or.inl ⟨by rfl, ?_⟩) (by assumption) ?_
                  rotate_left
                  · intro w _
                    first | (go_simp; done) | (go_simp; with_reducible rfl)
                  try simp only [Act.put, List.setIfInBounds_toArray, List.set_cons_zero, List.set_cons_succ]
                  refine wpAnyH_take (i := 6) (fuel := 31) (oi := ⟨_, _, _, _, _, _⟩) (v := ?_) rfl (by kernel_rfl) (by kernel_rfl) (by kernel_rfl) (fun _ _ _ h => h) (Or.inl ⟨by rfl, ?_⟩) (by assumption) ?_
                  rotate_left
                  · intro w _
                    first | (go_simp; done) | (go_simp; with_reducible rfl)
                  try simp only [Act.put, List.setIfInBounds_toArray, List.set_cons_zero, List.set_cons_succ]
                  refine wpAnyH_take (i := 7) (fuel := 30) (oi := ⟨_, _, _, _, _, _⟩) (v := ?_) rfl (by kernel_rfl) (by kernel_rfl) (by kernel_rfl) (fun _ _ _ h => h) (Or.inl ⟨by rfl, ?_⟩) (by assumption) ?_
                  rotate_left
                  · intro w _
                    first | (go_simp; done) | (go_simp; with_reducible rfl)
                  try simp only [Act.put, List.setIfInBounds_toArray, List.set_cons_zero, List.set_cons_succ]
                  refine wpAnyH_take (i := 8) (fuel := 29) (oi := ⟨_, _, _, _, _, _⟩) (v := ?_) rfl (by kernel_rfl) (by kernel_rfl) (by kernel_rfl) (fun _ _ _ h => h) (Or.inl ⟨by rfl, ?_⟩) (by assumption) ?_
                  rotate_left
                  · intro w _
                    first | (go_simp; done) | (go_simp; with_reducible rfl)
                  try simp only [Act.put, List.setIfInBounds_toArray, List.set_cons_zero, List.set_cons_succ]
                  refine wpAnyH_take (i := 9) (fuel := 28) (oi := ⟨_, _, _, _, _, _⟩) (v := ?_) rfl (by kernel_rfl) (by kernel_rfl) (by kernel_rfl) (fun _ _ _ h => h) (Or.inl ⟨by rfl, ?_⟩) (by assumption) ?_
                  rotate_left
                  · intro w _
                    first | (go_simp; done) | (go_simp; with_reducible rfl)
                  try simp only [Act.put, List.setIfInBounds_toArray, List.set_cons_zero, List.set_cons_succ]
                  refine wpAnyH_take (i := 10) (fuel := 27) (oi := ⟨_, _, _, _, _, _⟩) (v := ?_) rfl (by kernel_rfl) (by kernel_rfl) (by kernel_rfl) (fun _ _ _ h => h) (Or.inl ⟨by rfl, ?_⟩) (by assumption) ?_
                  rotate_left
                  · intro w _
                    first | (go_simp; done) | (go_simp; with_reducible rfl)
                  try simp only [Act.put, List.setIfInBounds_toArray, List.set_cons_zero, List.set_cons_succ]
                  refine wpAnyH_take (i := 11) (fuel := 26) (oi := ⟨_, _, _, _, _, _⟩) (v := ?_) rfl (by kernel_rfl) (by kernel_rfl) (by kernel_rfl) (fun _ _ _ h => h) (Or.inl ⟨by rfl, ?_⟩) (by assumption) ?_
                  rotate_left
                  · intro w _
                    first | (go_simp; done) | (go_simp; with_reducible rfl)
                  try simp only [Act.put, List.setIfInBounds_toArray, List.set_cons_zero, List.set_cons_succ]
                  refine wpAnyH_take (i := 12) (fuel := 25) (oi := ⟨_, _, _, _, _, _⟩) (v := ?_) rfl (by kernel_rfl) (by kernel_rfl) (by kernel_rfl) (fun _ _ _ h => h) (Or.inl ⟨by rfl, ?_⟩) (by assumption) ?_
                  rotate_left
                  · intro w _
                    first | (go_simp; done) | (go_simp; with_reducible rfl)
                  try simp only [Act.put, List.setIfInBounds_toArray, List.set_cons_zero, List.set_cons_succ]
                  refine wpAnyH_take (i := 13) (fuel := 24) (oi := ⟨_, _, _, _, _, _⟩) (v := ?_) rfl (by kernel_rfl) (by kernel_rfl) (by kernel_rfl) (fun _ _ _ h => h) (Or.inl ⟨by rfl, ?_⟩) (by assumption) ?_
                  rotate_left
                  · intro w _
                    first | (go_simp; done) | (go_simp; with_reducible rfl)
                  try simp only [Act.put, List.setIfInBounds_toArray, List.set_cons_zero, List.set_cons_succ]
                  refine wpAnyH_take (i := 14) (fuel := 23) (oi := ⟨_, _, _, _, _, _⟩) (v := ?_) rfl (by kernel_rfl) (by kernel_rfl) (by kernel_rfl) (fun _ _ _ h => h) (Or.inl ⟨by rfl, ?_⟩) (by assumption) ?_
                  rotate_left
                  · intro w hSw
                    obtain ⟨s1, s2, s3, s4⟩ := hSw
                    first | (go_simp; done) | (go_simp; with_reducible rfl)
                  try simp only [Act.put, List.setIfInBounds_toArray, List.set_cons_zero, List.set_cons_succ]
                  refine wpAnyH_take (i := 15) (fuel := 22) (oi := ⟨_, _, _, _, _, _⟩) (v := ?_) rfl (by kernel_rfl) (by kernel_rfl) (by kernel_rfl) (fun _ _ _ h => h) (Or.inl ⟨by rfl, ?_⟩) (by assumption) ?_
                  rotate_left
                  · intro w _
                    first | (go_simp; done) | (go_simp; with_reducible rfl)
                  try simp only [Act.put, List.setIfInBounds_toArray, List.set_cons_zero, List.set_cons_succ]
                  refine wpAnyH_take (i := 16) (fuel := 21) (oi := ⟨_, _, _, _, _, _⟩) (v := ?_) rfl (by kernel_rfl) (by kernel_rfl) (by kernel_rfl) (fun _ _ _ h => h) (Or.inl ⟨by rfl, ?_⟩) (by assumption) ?_
                  rotate_left
                  · intro w _
                    first | (go_simp; done) | (go_simp; with_reducible rfl)
                  try simp only [Act.put, List.setIfInBounds_toArray, List.set_cons_zero, List.set_cons_succ]
                  refine wpAnyH_take (i := 17) (fuel := 20) (oi := ⟨_, _, _, _, _, _⟩) (v := ?_) rfl (by kernel_rfl) (by kernel_rfl) (by kernel_rfl) (fun _ _ _ h => h) (Or.inl ⟨by rfl, ?_⟩) (by assumption) ?_
                  rotate_left
                  · intro w _
                    first | (go_simp; done) | (go_simp; with_reducible rfl)
                  try simp only [Act.put, List.setIfInBounds_toArray, List.set_cons_zero, List.set_cons_succ]
                  refine wpAnyH_take (i := 18) (fuel := 19) (oi := ⟨_, _, _, _, _, _⟩) (v := ?_) rfl (by kernel_rfl) (by kernel_rfl) (by kernel_rfl) (fun _ _ _ h => h) (Or.inl ⟨by rfl, ?_⟩) (by assumption) ?_
                  rotate_left
                  · intro w hSw
                    obtain ⟨s1, s2, s3, s4⟩ := hSw
                    first | (go_simp; done) | (go_simp; with_reducible rfl)
                  try simp only [Act.put, List.setIfInBounds_toArray, List.set_cons_zero, List.set_cons_succ]
                  refine wpAnyH_ready (rs := [19]) (by kernel_rfl) (by simp) ?_
                  refine AllReadyH.cons (o := ⟨_, _, _, _, _, _⟩) rfl (fun K hK => ?_) AllReadyH.nil
                  go_simp
                  go_at_call 24
                  refine O1.out.mono ?_
                  rintro e1 w10 ⟨rfl, hb10⟩
                  have HB10 := Lib.hid (HBD.out.trans (hb10.mono HBD.out.size))
                  clear hb10 O1
                  refine hK.out _ _ (by have hYY := HYY.out; have hl := hbxl.out; exact ⟨(HB10.out.cell (p := ⟨bx, 0, none⟩) hl.1).trans hYY.1, (HB10.out.cell (p := ⟨bx, 1, none⟩) hl.1).trans hYY.2.1, (HB10.out.cell (p := ⟨gl, o + i * 2, none⟩) hl.2).trans hYY.2.2.1, (HB10.out.cell (p := ⟨gl, o + i * 2 + 1, none⟩) hl.2).trans hYY.2.2.2⟩) (fun hHeld => ?_)
                  clear hK K
                  try simp only [Act.put, List.setIfInBounds_toArray, List.set_cons_zero, List.set_cons_succ]
                  refine wpAnyH_take (i := 20) (fuel := 17) (oi := ⟨_, _, _, _, _, _⟩) (v := ?_) rfl (by kernel_rfl) (by kernel_rfl) (by kernel_rfl) (fun _ _ _ h => h) (Or.inl ⟨by rfl, ?_⟩) (by assumption) ?_
                  rotate_left
                  · intro w _
                    first | (go_simp; done) | (go_simp; with_reducible rfl)
                  try simp only [Act.put, List.setIfInBounds_toArray, List.set_cons_zero, List.set_cons_succ]
                  refine wpAnyH_take (i := 21) (fuel := 16) (oi := ⟨_, _, _, _, _, _⟩) (v := ?_) rfl (by kernel_rfl) (by kernel_rfl) (by kernel_rfl) (fun _ _ _ h => h) (Or.inl ⟨by rfl, ?_⟩) (by assumption) ?_
                  rotate_left
                  · intro w _
                    first | (go_simp; done) | (go_simp; with_reducible rfl)
                  try simp only [Act.put, List.setIfInBounds_toArray, List.set_cons_zero, List.set_cons_succ]
                  refine wpAnyH_take (i := 22) (fuel := 15) (oi := ⟨_, _, _, _, _, _⟩) (v := ?_) rfl (by kernel_rfl) (by kernel_rfl) (by kernel_rfl) (fun _ _ _ h => h) (Or.inl ⟨by rfl, ?_⟩) (by assumption) ?_
                  rotate_left
                  · intro w _
                    first | (go_simp; done) | (go_simp; with_reducible rfl)
                  try simp only [Act.put, List.setIfInBounds_toArray, List.set_cons_zero, List.set_cons_succ]
                  refine wpAnyH_take (i := 23) (fuel := 14) (oi := ⟨_, _, _, _, _, _⟩) (v := ?_) rfl (by kernel_rfl) (by kernel_rfl) (by kernel_rfl) (fun _ _ _ h => h) (Or.inl ⟨by rfl, ?_⟩) (by assumption) ?_
                  rotate_left
                  · intro w _
                    first | (go_simp; done) | (go_simp; with_reducible rfl)
                  try simp only [Act.put, List.setIfInBounds_toArray, List.set_cons_zero, List.set_cons_succ]
                  refine wpAnyH_take (i := 24) (fuel := 13) (oi := ⟨_, _, _, _, _, _⟩) (v := ?_) rfl (by kernel_rfl) (by kernel_rfl) (by kernel_rfl) (fun _ _ _ h => h) (Or.inl ⟨by rfl, ?_⟩) (by assumption) ?_
                  rotate_left
                  · intro w _
                    first | (go_simp; done) | (go_simp; with_reducible rfl)
                  try simp only [Act.put, List.setIfInBounds_toArray, List.set_cons_zero, List.set_cons_succ]
                  refine wpAnyH_take (i := 25) (fuel := 12) (oi := ⟨_, _, _, _, _, _⟩) (v := ?_) rfl (by kernel_rfl) (by kernel_rfl) (by kernel_rfl) (fun _ _ _ h => h) (Or.inl ⟨by rfl, ?_⟩) (by assumption) ?_
                  rotate_left
                  · intro w _
                    first | (go_simp; done) | (go_simp; with_reducible rfl)
                  try simp only [Act.put, List.setIfInBounds_toArray, List.set_cons_zero, List.set_cons_succ]
                  refine wpAnyH_take (i := 26) (fuel := 11) (oi := ⟨_, _, _, _, _, _⟩) (v := ?_) rfl (by kernel_rfl) (by kernel_rfl) (by kernel_rfl) (fun _ _ _ h => h) (Or.inl ⟨by rfl, ?_⟩) (by assumption) ?_
                  rotate_left
                  · intro w _
                    first | (go_simp; done) | (go_simp; with_reducible rfl)
                  try simp only [Act.put, List.setIfInBounds_toArray, List.set_cons_zero, List.set_cons_succ]
                  refine wpAnyH_take (i := 27) (fuel := 10) (oi := ⟨_, _, _, _, _, _⟩) (v := undef) rfl (by kernel_rfl) (by kernel_rfl) (by kernel_rfl) (fun _ _ _ h => h) (Or.inr ⟨by rfl, rfl⟩) (by assumption) ?_
                  try simp only [Act.put, List.setIfInBounds_toArray, List.set_cons_zero, List.set_cons_succ]
                  refine wpAnyH_take (i := 28) (fuel := 9) (oi := ⟨_, _, _, _, _, _⟩) (v := undef) rfl (by kernel_rfl) (by kernel_rfl) (by kernel_rfl) (fun _ _ _ h => h) (Or.inr ⟨by rfl, rfl⟩) (by assumption) ?_
                  try simp only [Act.put, List.setIfInBounds_toArray, List.set_cons_zero, List.set_cons_succ]
                  refine wpAnyH_take (i := 29) (fuel := 8) (oi := ⟨_, _, _, _, _, _⟩) (v := undef) rfl (by kernel_rfl) (by kernel_rfl) (by kernel_rfl) (fun _ _ _ h => h) (Or.inr ⟨by rfl, rfl⟩) (by assumption) ?_
                  try simp only [Act.put, List.setIfInBounds_toArray, List.set_cons_zero, List.set_cons_succ]
                  refine wpAnyH_take (i := 30) (fuel := 7) (oi := ⟨_, _, _, _, _, _⟩) (v := undef) rfl (by kernel_rfl) (by kernel_rfl) (by kernel_rfl) (fun _ _ _ h => h) (Or.inr ⟨by rfl, rfl⟩) (by assumption) ?_
                  try simp only [Act.put, List.setIfInBounds_toArray, List.set_cons_zero, List.set_cons_succ]
                  refine wpAnyH_take (i := 31) (fuel := 6) (oi := ⟨_, _, _, _, _, _⟩) (v := undef) rfl (by kernel_rfl) (by kernel_rfl) (by kernel_rfl) (fun _ _ _ h => h) (Or.inr ⟨by rfl, rfl⟩) (by assumption) ?_
                  try simp only [Act.put, List.setIfInBounds_toArray, List.set_cons_zero, List.set_cons_succ]
                  refine wpAnyH_take (i := 32) (fuel := 5) (oi := ⟨_, _, _, _, _, _⟩) (v := undef) rfl (by kernel_rfl) (by kernel_rfl) (by kernel_rfl) (fun _ _ _ h => h) (Or.inr ⟨by rfl, rfl⟩) (by assumption) ?_
                  try simp only [Act.put, List.setIfInBounds_toArray, List.set_cons_zero, List.set_cons_succ]
                  refine wpAnyH_take (i := 33) (fuel := 4) (oi := ⟨_, _, _, _, _, _⟩) (v := undef) rfl (by kernel_rfl) (by kernel_rfl) (by kernel_rfl) (fun _ _ _ h => h) (Or.inr ⟨by rfl, rfl⟩) (by assumption) ?_
                  try simp only [Act.put, List.setIfInBounds_toArray, List.set_cons_zero, List.set_cons_succ]
                  refine wpAnyH_take (i := 34) (fuel := 3) (oi := ⟨_, _, _, _, _, _⟩) (v := undef) rfl (by kernel_rfl) (by kernel_rfl) (by kernel_rfl) (fun _ _ _ h => h) (Or.inr ⟨by rfl, rfl⟩) (by assumption) ?_
                  try simp only [Act.put, List.setIfInBounds_toArray, List.set_cons_zero, List.set_cons_succ]
                  refine wpAnyH_take (i := 35) (fuel := 2) (oi := ⟨_, _, _, _, _, _⟩) (v := undef) rfl (by kernel_rfl) (by kernel_rfl) (by kernel_rfl) (fun _ _ _ h => h) (Or.inr ⟨by rfl, rfl⟩) (by assumption) ?_
                  try simp only [Act.put, List.setIfInBounds_toArray, List.set_cons_zero, List.set_cons_succ]
                  refine wpAnyH_take (i := 36) (fuel := 1) (oi := ⟨_, _, _, _, _, _⟩) (v := ?_) rfl (by kernel_rfl) (by kernel_rfl) (by kernel_rfl) (fun _ _ _ h => h) (Or.inl ⟨by rfl, ?_⟩) (by assumption) ?_
                  rotate_left
                  · intro w _
                    first | (go_simp; done) | (go_simp; with_reducible rfl)
                  try simp only [Act.put, List.setIfInBounds_toArray, List.set_cons_zero, List.set_cons_succ]
                  refine wpAnyH_take (i := 37) (fuel := 0) (oi := ⟨_, _, _, _, _, _⟩) (v := ?_) rfl (by kernel_rfl) (by kernel_rfl) (by kernel_rfl) (fun _ _ _ h => h) (Or.inl ⟨by rfl, ?_⟩) (by assumption) ?_
                  rotate_left
                  · intro w _
                    first | (go_simp; done) | (go_simp; with_reducible rfl)
                  try simp only [Act.put, List.setIfInBounds_toArray, List.set_cons_zero, List.set_cons_succ]
                  refine wpAnyH_done (by kernel_rfl) ?_ _
                  have HPC := Lib.hid (HPB.out.below HB10.out)
                  clear HPB HYY hHeld HB9 HB10
                  obtain ⟨y5, y6⟩ := po_box HPC.out.box
                  go_wp2_with fail
                  go_loopg [17] ml (fun g'' jv wx => ∃ j' : Nat, j' ≤ ml ∧ g'' = ml - j' ∧ jv = .int .i64 j' ∧ Hid (PoB wc wx bx xd a8 ml c8))
                  case atStart => exact ⟨0, Nat.zero_le _, rfl, rfl, HPC⟩
                  case round =>
                    clear HPC y5 y6
                    obtain ⟨j', hj', rfl, rfl, HPB⟩ := hrel
                    obtain ⟨y5, y6⟩ := po_box HPB.out.box
                    by_cases hjl : j' < ml
                    · have j4 : (j' : Int) < (ml : Int) := by omega
                      obtain ⟨q, rfl, q1, cs, q2, q3⟩ := HPB.out.lst (by omega)
                      obtain ⟨⟨u1, y7⟩, y8⟩ := int_at q2 q3 j' hjl
                      have HPB2 : Hid (PoB wc (wr.setCell ⟨q, j', none⟩ (.int .i64 (-7))) bx xd (some ⟨q, 0, none⟩) ml c8) := HPB.out.set q1 ⟨cs, q2⟩ j' _
                      clear q2 q3 HPB
                      go_wp2_with fail
                      go_roundg (ml - (j' + 1))
                      case rel => exact ⟨j' + 1, by omega, rfl, by go_num, HPB2⟩
                      case measure => omega
                    · obtain rfl : j' = ml := by omega
                      have HC9 := Lib.hid (HC7.out.below HPB.out.old)
                      have HB9 := Lib.hid (HB7.out.trans (HPB.out.old.mono HB7.out.size))
                      go_wp2_with fail
                      go_roundg (m - (j + 1))
                      case rel => exact ⟨j + 1, _, by omega, rfl, by go_num, rfl, by show _ ∧ _; have := HT7.out; omega, HC9, HB9⟩
                      case measure => omega
                · obtain rfl : t' = (k : Int) := by have := HT7.out; omega
                  have hpo : Hid (Calls Try.prog 20 #[.pointer (some ⟨p, 0, none⟩)] wc fun e w' => e = .returned (.tuple #[.agg #[.int .i64 0, .slice none 0 0], .bool false]) ∧ Below wc.heap.size wc w') := by
                    refine (post_any wc C p d _ HC7.out).mono ?_
                    rintro e w' ⟨hb, (⟨_, q⟩ | ⟨j', hj', va, q1, q2, q3⟩)⟩
                    · exact ⟨q, hb⟩
                    · have := HN.out; omega
                  have i4 : decide ((k : Int) < (k : Int)) = false := decide_eq_false (by omega)
                  go_wp2_with (go_at_call 20; refine hpo.out.mono ?_; rintro e1 w8 ⟨rfl, hb8⟩; have HB8 := Lib.hid hb8; clear hb8 hpo)
                  have z6 : (w8.alloc (.cells #[.int .i64 0, .slice none 0 0] 40)).heap[w8.heap.size]? = some (.cells #[.int .i64 0, .slice none 0 0] 40 (0, 0)) := Go.Deep.blk_alloc_new _ _
                  have HPB : Hid (PoB wc (w8.alloc (.cells #[.int .i64 0, .slice none 0 0] 40)) w8.heap.size 0 none 0 0) := ⟨HB8.out.trans (((Below.refl _ _).alloc (Nat.le_refl _) _).mono HB8.out.size), z6, ⟨Nat.le_refl _, by omega⟩, fun h0 => by omega⟩
                  obtain ⟨w9, hw9⟩ : ∃ w9, w9 = w8.alloc (.cells #[.int .i64 0, .slice none 0 0] 40) := ⟨_, rfl⟩
                  obtain ⟨bx, hbx2⟩ : ∃ bx, bx = w8.heap.size := ⟨_, rfl⟩
                  rw [← hw9] at z6 HPB ⊢
                  rw [← hbx2] at z6 HPB ⊢
                  clear hw9 hbx2 HB8
                  obtain ⟨y1, y2⟩ := po_boxd z6
                  clear z6
                  refine wp_region_held_drew (S := fun W => W.cell? ⟨bx, 0, none⟩ = some (.int .i64 0) ∧ W.cell? ⟨bx, 1, none⟩ = some (.slice none 0 0)) (by kernel_rfl) ⟨y1, y2⟩ (fun hHeld => ?_)
                  refine wpAnyH_take (i := 0) (fuel := 37) (oi := ⟨_, _, _, _, _, _⟩) (v := ?_) rfl (by kernel_rfl) (by kernel_rfl) (by kernel_rfl) (fun _ _ _ h => h) (Or.inl ⟨by rfl, ?_⟩) (by assumption) ?_
                  rotate_left
                  · intro w _
                    first | (go_simp; done) | (go_simp; with_reducible rfl)
                  try simp only [Act.put, List.setIfInBounds_toArray, List.set_cons_zero, List.set_cons_succ]
                  refine wpAnyH_take (i := 1) (fuel := 36) (oi := ⟨_, _, _, _, _, _⟩) (v := ?_) rfl (by kernel_rfl) (by kernel_rfl) (by kernel_rfl) (fun _ _ _ h => h) (Or.inl ⟨by rfl, ?_⟩) (by assumption) ?_
                  rotate_left
                  · intro w _
                    first | (go_simp; done) | (go_simp; with_reducible rfl)
                  try simp only [Act.put, List.setIfInBounds_toArray, List.set_cons_zero, List.set_cons_succ]
                  refine wpAnyH_take (i := 2) (fuel := 35) (oi := ⟨_, _, _, _, _, _⟩) (v := ?_) rfl (by kernel_rfl) (by kernel_rfl) (by kernel_rfl) (fun _ _ _ h => h) (Or.inl ⟨by rfl, ?_⟩) (by assumption) ?_
                  rotate_left
                  · intro w _
                    first | (go_simp; done) | (go_simp; with_reducible rfl)
                  try simp only [Act.put, List.setIfInBounds_toArray, List.set_cons_zero, List.set_cons_succ]
                  refine wpAnyH_take (i := 3) (fuel := 34) (oi := ⟨_, _, _, _, _, _⟩) (v := ?_) rfl (by kernel_rfl) (by kernel_rfl) (by kernel_rfl) (fun _ _ _ h => h) (Or.inl ⟨by rfl, ?_⟩) (by assumption) ?_
                  rotate_left
                  · intro w _
                    first | (go_simp; done) | (go_simp; with_reducible rfl)
                  try simp only [Act.put, List.setIfInBounds_toArray, List.set_cons_zero, List.set_cons_succ]
                  refine wpAnyH_take (i := 4) (fuel := 33) (oi := ⟨_, _, _, _, _, _⟩) (v := ?_) rfl (by kernel_rfl) (by kernel_rfl) (by kernel_rfl) (fun _ _ _ h => h) (Or.inl ⟨by rfl, ?_⟩) (by assumption) ?_
                  rotate_left
                  · intro w _
                    first | (go_simp; done) | (go_simp; with_reducible rfl)
                  try simp only [Act.put, List.setIfInBounds_toArray, List.set_cons_zero, List.set_cons_succ]
                  refine wpAnyH_take (i := 5) (fuel := 32) (oi := ⟨_, _, _, _, _, _⟩) (v := ?_) rfl (by kernel_rfl) (by kernel_rfl) (by kernel_rfl) (fun _ _ _ h => h) (Or.inl ⟨by rfl, ?_⟩) (by assumption) ?_
                  rotate_left
                  · intro w _
                    first | (go_simp; done) | (go_simp; with_reducible rfl)
                  try simp only [Act.put, List.setIfInBounds_toArray, List.set_cons_zero, List.set_cons_succ]
                  refine wpAnyH_take (i := 6) (fuel := 31) (oi := ⟨_, _, _, _, _, _⟩) (v := ?_) rfl (by kernel_rfl) (by kernel_rfl) (by kernel_rfl) (fun _ _ _ h => h) (Or.inl ⟨by rfl, ?_⟩) (by assumption) ?_
                  rotate_left
                  · intro w _
                    first | (go_simp; done) | (go_simp; with_reducible rfl)
                  try simp only [Act.put, List.setIfInBounds_toArray, List.set_cons_zero, List.set_cons_succ]
                  refine wpAnyH_take (i := 7) (fuel := 30) (oi := ⟨_, _, _, _, _, _⟩) (v := ?_) rfl (by kernel_rfl) (by kernel_rfl) (by kernel_rfl) (fun _ _ _ h => h) (Or.inl ⟨by rfl, ?_⟩) (by assumption) ?_
                  rotate_left
                  · intro w _
                    first | (go_simp; done) | (go_simp; with_reducible rfl)
                  try simp only [Act.put, List.setIfInBounds_toArray, List.set_cons_zero, List.set_cons_succ]
                  refine wpAnyH_take (i := 8) (fuel := 29) (oi := ⟨_, _, _, _, _, _⟩) (v := ?_) rfl (by kernel_rfl) (by kernel_rfl) (by kernel_rfl) (fun _ _ _ h => h) (Or.inl ⟨by rfl, ?_⟩) (by assumption) ?_
                  rotate_left
                  · intro w _
                    first | (go_simp; done) | (go_simp; with_reducible rfl)
                  try simp only [Act.put, List.setIfInBounds_toArray, List.set_cons_zero, List.set_cons_succ]
                  refine wpAnyH_take (i := 9) (fuel := 28) (oi := ⟨_, _, _, _, _, _⟩) (v := ?_) rfl (by kernel_rfl) (by kernel_rfl) (by kernel_rfl) (fun _ _ _ h => h) (Or.inl ⟨by rfl, ?_⟩) (by assumption) ?_
                  rotate_left
                  · intro w _
                    first | (go_simp; done) | (go_simp; with_reducible rfl)
                  try simp only [Act.put, List.setIfInBounds_toArray, List.set_cons_zero, List.set_cons_succ]
                  refine wpAnyH_take (i := 10) (fuel := 27) (oi := ⟨_, _, _, _, _, _⟩) (v := ?_) rfl (by kernel_rfl) (by kernel_rfl) (by kernel_rfl) (fun _ _ _ h => h) (Or.inl ⟨by rfl, ?_⟩) (by assumption) ?_
                  rotate_left
                  · intro w _
                    first | (go_simp; done) | (go_simp; with_reducible rfl)
                  try simp only [Act.put, List.setIfInBounds_toArray, List.set_cons_zero, List.set_cons_succ]
                  refine wpAnyH_take (i := 11) (fuel := 26) (oi := ⟨_, _, _, _, _, _⟩) (v := ?_) rfl (by kernel_rfl) (by kernel_rfl) (by kernel_rfl) (fun _ _ _ h => h) (Or.inl ⟨by rfl, ?_⟩) (by assumption) ?_
                  rotate_left
                  · intro w _
                    first | (go_simp; done) | (go_simp; with_reducible rfl)
                  try simp only [Act.put, List.setIfInBounds_toArray, List.set_cons_zero, List.set_cons_succ]
                  refine wpAnyH_take (i := 12) (fuel := 25) (oi := ⟨_, _, _, _, _, _⟩) (v := ?_) rfl (by kernel_rfl) (by kernel_rfl) (by kernel_rfl) (fun _ _ _ h => h) (Or.inl ⟨by rfl, ?_⟩) (by assumption) ?_
                  rotate_left
                  · intro w _
                    first | (go_simp; done) | (go_simp; with_reducible rfl)
                  try simp only [Act.put, List.setIfInBounds_toArray, List.set_cons_zero, List.set_cons_succ]
                  refine wpAnyH_take (i := 13) (fuel := 24) (oi := ⟨_, _, _, _, _, _⟩) (v := ?_) rfl (by kernel_rfl) (by kernel_rfl) (by kernel_rfl) (fun _ _ _ h => h) (Or.inl ⟨by rfl, ?_⟩) (by assumption) ?_
                  rotate_left
                  · intro w _
                    first | (go_simp; done) | (go_simp; with_reducible rfl)
                  try simp only [Act.put, List.setIfInBounds_toArray, List.set_cons_zero, List.set_cons_succ]
                  refine wpAnyH_take (i := 14) (fuel := 23) (oi := ⟨_, _, _, _, _, _⟩) (v := undef) rfl (by kernel_rfl) (by kernel_rfl) (by kernel_rfl) (fun _ _ _ h => h) (Or.inr ⟨by rfl, rfl⟩) (by assumption) ?_
                  try simp only [Act.put, List.setIfInBounds_toArray, List.set_cons_zero, List.set_cons_succ]
                  refine wpAnyH_take (i := 15) (fuel := 22) (oi := ⟨_, _, _, _, _, _⟩) (v := undef) rfl (by kernel_rfl) (by kernel_rfl) (by kernel_rfl) (fun _ _ _ h => h) (Or.inr ⟨by rfl, rfl⟩) (by assumption) ?_
                  try simp only [Act.put, List.setIfInBounds_toArray, List.set_cons_zero, List.set_cons_succ]
                  refine wpAnyH_take (i := 16) (fuel := 21) (oi := ⟨_, _, _, _, _, _⟩) (v := undef) rfl (by kernel_rfl) (by kernel_rfl) (by kernel_rfl) (fun _ _ _ h => h) (Or.inr ⟨by rfl, rfl⟩) (by assumption) ?_
                  try simp only [Act.put, List.setIfInBounds_toArray, List.set_cons_zero, List.set_cons_succ]
                  refine wpAnyH_take (i := 17) (fuel := 20) (oi := ⟨_, _, _, _, _, _⟩) (v := undef) rfl (by kernel_rfl) (by kernel_rfl) (by kernel_rfl) (fun _ _ _ h => h) (Or.inr ⟨by rfl, rfl⟩) (by assumption) ?_
                  try simp only [Act.put, List.setIfInBounds_toArray, List.set_cons_zero, List.set_cons_succ]
                  refine wpAnyH_take (i := 18) (fuel := 19) (oi := ⟨_, _, _, _, _, _⟩) (v := undef) rfl (by kernel_rfl) (by kernel_rfl) (by kernel_rfl) (fun _ _ _ h => h) (Or.inr ⟨by rfl, rfl⟩) (by assumption) ?_
                  try simp only [Act.put, List.setIfInBounds_toArray, List.set_cons_zero, List.set_cons_succ]
                  refine wpAnyH_take (i := 19) (fuel := 18) (oi := ⟨_, _, _, _, _, _⟩) (v := undef) rfl (by kernel_rfl) (by kernel_rfl) (by kernel_rfl) (fun _ _ _ h => h) (Or.inr ⟨by rfl, rfl⟩) (by assumption) ?_
                  try simp only [Act.put, List.setIfInBounds_toArray, List.set_cons_zero, List.set_cons_succ]
                  refine wpAnyH_take (i := 20) (fuel := 17) (oi := ⟨_, _, _, _, _, _⟩) (v := undef) rfl (by kernel_rfl) (by kernel_rfl) (by kernel_rfl) (fun _ _ _ h => h) (Or.inr ⟨by rfl, rfl⟩) (by assumption) ?_
                  try simp only [Act.put, List.setIfInBounds_toArray, List.set_cons_zero, List.set_cons_succ]
                  refine wpAnyH_take (i := 21) (fuel := 16) (oi := ⟨_, _, _, _, _, _⟩) (v := ?_) rfl (by kernel_rfl) (by kernel_rfl) (by kernel_rfl) (fun _ _ _ h => h) (Or.inl ⟨by rfl, ?_⟩) (by assumption) ?_
                  rotate_left
                  · intro w _
                    first | (go_simp; done) | (go_simp; with_reducible rfl)
                  try simp only [Act.put, List.setIfInBounds_toArray, List.set_cons_zero, List.set_cons_succ]
                  refine wpAnyH_take (i := 22) (fuel := 15) (oi := ⟨_, _, _, _, _, _⟩) (v := ?_) rfl (by kernel_rfl) (by kernel_rfl) (by kernel_rfl) (fun _ _ _ h => h) (Or.inl ⟨by rfl, ?_⟩) (by assumption) ?_
                  rotate_left
                  · intro w _
                    first | (go_simp; done) | (go_simp; with_reducible rfl)
                  try simp only [Act.put, List.setIfInBounds_toArray, List.set_cons_zero, List.set_cons_succ]
                  refine wpAnyH_take (i := 23) (fuel := 14) (oi := ⟨_, _, _, _, _, _⟩) (v := ?_) rfl (by kernel_rfl) (by kernel_rfl) (by kernel_rfl) (fun _ _ _ h => h) (Or.inl ⟨by rfl, ?_⟩) (by assumption) ?_
                  rotate_left
                  · intro w _
                    first | (go_simp; done) | (go_simp; with_reducible rfl)
                  try simp only [Act.put, List.setIfInBounds_toArray, List.set_cons_zero, List.set_cons_succ]
                  refine wpAnyH_take (i := 24) (fuel := 13) (oi := ⟨_, _, _, _, _, _⟩) (v := ?_) rfl (by kernel_rfl) (by kernel_rfl) (by kernel_rfl) (fun _ _ _ h => h) (Or.inl ⟨by rfl, ?_⟩) (by assumption) ?_
                  rotate_left
                  · intro w _
                    first | (go_simp; done) | (go_simp; with_reducible rfl)
                  try simp only [Act.put, List.setIfInBounds_toArray, List.set_cons_zero, List.set_cons_succ]
                  refine wpAnyH_take (i := 25) (fuel := 12) (oi := ⟨_, _, _, _, _, _⟩) (v := ?_) rfl (by kernel_rfl) (by kernel_rfl) (by kernel_rfl) (fun _ _ _ h => h) (Or.inl ⟨by rfl, ?_⟩) (by assumption) ?_
                  rotate_left
                  · intro w _
                    first | (go_simp; done) | (go_simp; with_reducible rfl)
                  try simp only [Act.put, List.setIfInBounds_toArray, List.set_cons_zero, List.set_cons_succ]
                  refine wpAnyH_take (i := 26) (fuel := 11) (oi := ⟨_, _, _, _, _, _⟩) (v := ?_) rfl (by kernel_rfl) (by kernel_rfl) (by kernel_rfl) (fun _ _ _ h => h) (Or.inl ⟨by rfl, ?_⟩) (by assumption) ?_
                  rotate_left
                  · intro w _
                    first | (go_simp; done) | (go_simp; with_reducible rfl)
                  try simp only [Act.put, List.setIfInBounds_toArray, List.set_cons_zero, List.set_cons_succ]
                  refine wpAnyH_take (i := 27) (fuel := 10) (oi := ⟨_, _, _, _, _, _⟩) (v := ?_) rfl (by kernel_rfl) (by kernel_rfl) (by kernel_rfl) (fun _ _ _ h => h) (Or.inl ⟨by rfl, ?_⟩) (by assumption) ?_
                  rotate_left
                  · intro w _
                    first | (go_simp; done) | (go_simp; with_reducible rfl)
                  try simp only [Act.put, List.setIfInBounds_toArray, List.set_cons_zero, List.set_cons_succ]
                  refine wpAnyH_take (i := 28) (fuel := 9) (oi := ⟨_, _, _, _, _, _⟩) (v := ?_) rfl (by kernel_rfl) (by kernel_rfl) (by kernel_rfl) (fun _ _ _ h => h) (Or.inl ⟨by rfl, ?_⟩) (by assumption) ?_
                  rotate_left
                  · intro w hSw
                    obtain ⟨s1, s2⟩ := hSw
                    first | (go_simp; done) | (go_simp; with_reducible rfl)
                  try simp only [Act.put, List.setIfInBounds_toArray, List.set_cons_zero, List.set_cons_succ]
                  refine wpAnyH_take (i := 29) (fuel := 8) (oi := ⟨_, _, _, _, _, _⟩) (v := ?_) rfl (by kernel_rfl) (by kernel_rfl) (by kernel_rfl) (fun _ _ _ h => h) (Or.inl ⟨by rfl, ?_⟩) (by assumption) ?_
                  rotate_left
                  · intro w _
                    first | (go_simp; done) | (go_simp; with_reducible rfl)
                  try simp only [Act.put, List.setIfInBounds_toArray, List.set_cons_zero, List.set_cons_succ]
                  refine wpAnyH_take (i := 30) (fuel := 7) (oi := ⟨_, _, _, _, _, _⟩) (v := ?_) rfl (by kernel_rfl) (by kernel_rfl) (by kernel_rfl) (fun _ _ _ h => h) (Or.inl ⟨by rfl, ?_⟩) (by assumption) ?_
                  rotate_left
                  · intro w _
                    first | (go_simp; done) | (go_simp; with_reducible rfl)
                  try simp only [Act.put, List.setIfInBounds_toArray, List.set_cons_zero, List.set_cons_succ]
                  refine wpAnyH_take (i := 31) (fuel := 6) (oi := ⟨_, _, _, _, _, _⟩) (v := ?_) rfl (by kernel_rfl) (by kernel_rfl) (by kernel_rfl) (fun _ _ _ h => h) (Or.inl ⟨by rfl, ?_⟩) (by assumption) ?_
                  rotate_left
                  · intro w _
                    first | (go_simp; done) | (go_simp; with_reducible rfl)
                  try simp only [Act.put, List.setIfInBounds_toArray, List.set_cons_zero, List.set_cons_succ]
                  refine wpAnyH_take (i := 32) (fuel := 5) (oi := ⟨_, _, _, _, _, _⟩) (v := ?_) rfl (by kernel_rfl) (by kernel_rfl) (by kernel_rfl) (fun _ _ _ h => h) (Or.inl ⟨by rfl, ?_⟩) (by assumption) ?_
                  rotate_left
                  · intro w hSw
                    obtain ⟨s1, s2⟩ := hSw
                    first | (go_simp; done) | (go_simp; with_reducible rfl)
                  try simp only [Act.put, List.setIfInBounds_toArray, List.set_cons_zero, List.set_cons_succ]
                  refine wpAnyH_take (i := 33) (fuel := 4) (oi := ⟨_, _, _, _, _, _⟩) (v := ?_) rfl (by kernel_rfl) (by kernel_rfl) (by kernel_rfl) (fun _ _ _ h => h) (Or.inl ⟨by rfl, ?_⟩) (by assumption) ?_
                  rotate_left
                  · intro w _
                    first | (go_simp; done) | (go_simp; with_reducible rfl)
                  try simp only [Act.put, List.setIfInBounds_toArray, List.set_cons_zero, List.set_cons_succ]
                  refine wpAnyH_take (i := 34) (fuel := 3) (oi := ⟨_, _, _, _, _, _⟩) (v := ?_) rfl (by kernel_rfl) (by kernel_rfl) (by kernel_rfl) (fun _ _ _ h => h) (Or.inl ⟨by rfl, ?_⟩) (by assumption) ?_
                  rotate_left
                  · intro w _
                    first | (go_simp; done) | (go_simp; with_reducible rfl)
                  try simp only [Act.put, List.setIfInBounds_toArray, List.set_cons_zero, List.set_cons_succ]
                  refine wpAnyH_take (i := 35) (fuel := 2) (oi := ⟨_, _, _, _, _, _⟩) (v := ?_) rfl (by kernel_rfl) (by kernel_rfl) (by kernel_rfl) (fun _ _ _ h => h) (Or.inl ⟨by rfl, ?_⟩) (by assumption) ?_
                  rotate_left
                  · intro w _
                    first | (go_simp; done) | (go_simp; with_reducible rfl)
                  try simp only [Act.put, List.setIfInBounds_toArray, List.set_cons_zero, List.set_cons_succ]
                  refine wpAnyH_take (i := 36) (fuel := 1) (oi := ⟨_, _, _, _, _, _⟩) (v := ?_) rfl (by kernel_rfl) (by kernel_rfl) (by kernel_rfl) (fun _ _ _ h => h) (Or.inl ⟨by rfl, ?_⟩) (by assumption) ?_
                  rotate_left
                  · intro w _
                    first | (go_simp; done) | (go_simp; with_reducible rfl)
                  try simp only [Act.put, List.setIfInBounds_toArray, List.set_cons_zero, List.set_cons_succ]
                  refine wpAnyH_take (i := 37) (fuel := 0) (oi := ⟨_, _, _, _, _, _⟩) (v := ?_) rfl (by kernel_rfl) (by kernel_rfl) (by kernel_rfl) (fun _ _ _ h => h) (Or.inl ⟨by rfl, ?_⟩) (by assumption) ?_
                  rotate_left
                  · intro w _
                    first | (go_simp; done) | (go_simp; with_reducible rfl)
                  try simp only [Act.put, List.setIfInBounds_toArray, List.set_cons_zero, List.set_cons_succ]
                  refine wpAnyH_done (by kernel_rfl) ?_ _
                  have HPC := Lib.hid (HPB.out.below (Below.refl _ _).drew)
                  clear HPB y1 y2 hHeld
                  obtain ⟨y5, y6⟩ := po_box HPC.out.box
                  go_wp2_with fail
                  go_loopg [17] 0 (fun g'' jv wx => ∃ j' : Nat, j' ≤ 0 ∧ g'' = 0 - j' ∧ jv = .int .i64 j' ∧ Hid (PoB wc wx bx 0 none 0 0))
                  case atStart => exact ⟨0, Nat.zero_le _, rfl, rfl, HPC⟩
                  case round =>
                    clear HPC y5 y6
                    obtain ⟨j', hj', rfl, rfl, HPB⟩ := hrel
                    obtain ⟨y5, y6⟩ := po_box HPB.out.box
                    by_cases hjl : j' < 0
                    · omega
                    · obtain rfl : j' = 0 := by omega
                      have HC9 := Lib.hid (HC7.out.below HPB.out.old)
                      have HB9 := Lib.hid (HB7.out.trans (HPB.out.old.mono HB7.out.size))
                      go_wp2_with fail
                      go_roundg (m - (j + 1))
                      case rel => exact ⟨j + 1, _, by omega, rfl, by go_num, rfl, by show _ ∧ _; have := HT7.out; omega, HC9, HB9⟩
                      case measure => omega
            · have j3 : ¬ (j : Int) < 300 := by omega
              have j4 : j < m := hjm
              go_wp2_with fail
              go_ret
              exact ⟨rfl, HB6.out⟩
          · have j2 : ¬ (j : Int) < (m : Int) := by omega
            go_wp2_with fail
            go_ret
            exact ⟨rfl, HB6.out⟩
  · have hNa : Hid (∀ W v1, PoS (fun g => w.heap.size ≤ g) W v1 d → Calls Try.prog 19 #[v1] W fun e w' => e = .returned (.tuple #[.pointer none, .int .i64 (Pt.chk (-1) d)]) ∧ Below W.heap.size W w') := fun W v1 hW => by
      refine (hnw.out W v1 hW).mono ?_
      rintro e w1 ⟨hb, (⟨_, q2⟩ | ⟨q1, _⟩)⟩
      · exact ⟨q2, hb⟩
      · exact absurd q1 hc
    generalize Pt.chk (-1) d = c at *
    have hcb : (c != 0) = true := by simpa using hc
    have hcd : (c == c) = true := by simp
    clear hnw hc HU
    go_enter Try.func6, Try.ntmps6
    go_wp2_with (first
      | (go_at_call 10; refine hCP.out.mono ?_; rintro e1 w1 ⟨a1, c1, vs1, rfl, hn1c, hc1m, hpo1, hwo1, hb1⟩; have HB1 := Lib.hid hb1; have HP1 := Lib.hid hpo1; clear hb1 hpo1 hwo1 hCP)
      | (go_at_call 19; refine (hNa.out _ _ HP1.out).mono ?_; rintro e1 w2 ⟨rfl, hb2⟩; have HB2 := Lib.hid (HB1.out.trans (hb2.mono HB1.out.size)); clear hb2 hNa)
      | (go_at_call 13; refine (haw.out w2).mono ?_; rintro e1 w3 ⟨rfl, hb3⟩; have HB3 := Lib.hid (HB2.out.trans (hb3.mono HB2.out.size)); clear hb3 HB2)
      | (go_at_call 13; refine (haw.out w3).mono ?_; rintro e1 w4 ⟨rfl, hb4⟩; have HB4 := Lib.hid (HB3.out.trans (hb4.mono HB3.out.size)); clear hb4 HB3)
      | (go_at_call 15; refine (hcr.out _ HB4.out).mono ?_; rintro e1 w5 ⟨rfl, hb5⟩; have HB5 := Lib.hid (HB4.out.trans (hb5.mono HB4.out.size)); clear hb5 HB4))
    go_ret
    exact ⟨rfl, HB5.out⟩
end Go.Proofs.Ytokdjaljeckghaa
