/-
  All bytes are read as a set, or refused: the walk of the statement, over what is asked of the program's calls.
-/
import Derived.Test.YtoppgecajibelaaSj
namespace Go.Proofs.Ytoppgecajibelaa
open Go.RowKit
set_option maxRecDepth 100000 in
set_option maxHeartbeats 4000000 in
theorem reads15_walk (M : Lies) (hP : ProgC M) (w : World) (s : ByteArray) (hs : s.size ≤ 140737488351232) :
    Calls Try.prog 4 #[.string s] w fun e w' => e = .returned (.bool true) ∧ Below w.heap.size w w' := by
  have haw := Lib.hid hP.awake
  obtain ⟨x, n, G, hr⟩ : ∃ x n G, Ls.rd s.data.toList = (x, n, G) := ⟨_, _, _, rfl⟩
  have hrp := Lib.hid (fun W : World => hP.read W s (by omega))
  have hrr := Lib.hid (fun W : World => refF_read W s (by omega))
  rw [hr] at hrp hrr
  by_cases hx : x = 0
  · subst hx
    obtain ⟨k1, k2, k3⟩ := Ls.rd_one hr
    have hTs : (⟨(Ls.pack n G).toArray⟩ : ByteArray) = s := by rw [k3]
    have RP : Hid (∀ W, Calls Try.prog 19 #[.string s] W fun e w' => ∃ F p, e = .returned (.tuple #[.pointer (some ⟨p, 0, none⟩), .int .i64 0]) ∧ M w' F p n G ∧ Below W.heap.size W w') := fun W => by
      refine (hrp.out W).mono ?_
      rintro e w' ⟨P, h1, h2, (⟨h3, _⟩ | ⟨_, F, p, h4, h5, _⟩)⟩
      · exact absurd rfl h3
      · exact ⟨F, p, by rw [h1, h4], h5, h2⟩
    have RR : Hid (∀ W, Calls Try.prog 20 #[.string s] W fun e w' => ∃ F p, e = .returned (.tuple #[.pointer (some ⟨p, 0, none⟩), .int .i64 0]) ∧ RefF w' F p n G ∧ Below W.heap.size W w') := fun W => by
      refine (hrr.out W).mono ?_
      rintro e w' ⟨P, h1, h2, (⟨h3, _⟩ | ⟨_, F, p, h4, h5, _⟩)⟩
      · exact absurd rfl h3
      · exact ⟨F, p, by rw [h1, h4], h5, h2⟩
    have PP : Hid (∀ W F p, M W F p n G → Calls Try.prog 17 #[.pointer (some ⟨p, 0, none⟩)] W fun e w' => e = .returned (.string s) ∧ Below W.heap.size W w') := fun W F p h => by rw [← hTs]; exact hP.pack W F p n G h
    have PR : Hid (∀ W F p, RefF W F p n G → Calls Try.prog 18 #[.pointer (some ⟨p, 0, none⟩)] W fun e w' => e = .returned (.string s) ∧ Below W.heap.size W w') := fun W F p h => by rw [← hTs]; exact refF_pack W F p n G h
    have HL := Lib.hid hP.lies
    have es : (s.toList == s.toList) = true := by simp
    clear hrp hrr hr hP k1 k2 k3 hTs
    go_enter Try.func4, Try.ntmps4
    go_wp2_with (first
      | (go_at_call 19; refine (RP.out w).mono ?_; rintro e1 w1 ⟨F1, p1, rfl, hm1, hb1⟩; have HM1 := Lib.hid hm1; have HB1 := Lib.hid hb1; clear hm1 hb1 RP)
      | (go_at_call 20; refine (RR.out w1).mono ?_; rintro e1 w2 ⟨F2, p2, rfl, hm2, hb2⟩; have HM2 := Lib.hid hm2; have HB2 := Lib.hid (HB1.out.trans (hb2.mono HB1.out.size)); have HM12 := Lib.hid (HL.out.keep HM1.out fun k hk => hb2.block k (HL.out.lt HM1.out k hk)); clear hm2 hb2 RR)
      | (go_at_call 7; refine (haw.out w2).mono ?_; rintro e1 w3 ⟨rfl, hb3⟩; have HB3 := Lib.hid (HB2.out.trans (hb3.mono HB2.out.size)); have HM13 := Lib.hid (HL.out.keep HM12.out fun k hk => hb3.block k (HL.out.lt HM12.out k hk)); have HM23 := Lib.hid (refF_lies.keep HM2.out fun k hk => hb3.block k (refF_lies.lt HM2.out k hk)); clear hb3 haw)
      | (go_at_call 17; refine (PP.out w3 _ _ HM13.out).mono ?_; rintro e1 w4 ⟨rfl, hb4⟩; have HB4 := Lib.hid (HB3.out.trans (hb4.mono HB3.out.size)); have HM14 := Lib.hid (HL.out.keep HM13.out fun k hk => hb4.block k (HL.out.lt HM13.out k hk)); have HM24 := Lib.hid (refF_lies.keep HM23.out fun k hk => hb4.block k (refF_lies.lt HM23.out k hk)); have PQ := Lib.hid (fun W F p h => PP.out W F p h); clear hb4 PP)
      | (go_at_call 18; refine (PR.out w4 _ _ HM24.out).mono ?_; rintro e1 w5 ⟨rfl, hb5⟩; have HB5 := Lib.hid (HB4.out.trans (hb5.mono HB4.out.size)); have HM15 := Lib.hid (HL.out.keep HM14.out fun k hk => hb5.block k (HL.out.lt HM14.out k hk)); clear hb5 PR)
      | (go_at_call 17; refine (PQ.out w5 _ _ HM15.out).mono ?_; rintro e1 w6 ⟨rfl, hb6⟩; have HB6 := Lib.hid (HB5.out.trans (hb6.mono HB5.out.size)); clear hb6 PQ))
    go_ret
    exact ⟨rfl, HB6.out⟩
  · have RP : Hid (∀ W, Calls Try.prog 19 #[.string s] W fun e w' => e = .returned (.tuple #[.pointer none, .int .i64 x]) ∧ Below W.heap.size W w') := fun W => by
      refine (hrp.out W).mono ?_
      rintro e w' ⟨P, h1, h2, (⟨_, h3⟩ | ⟨h4, _⟩)⟩
      · exact ⟨by rw [h1, h3], h2⟩
      · exact absurd h4 hx
    have RR : Hid (∀ W, Calls Try.prog 20 #[.string s] W fun e w' => e = .returned (.tuple #[.pointer none, .int .i64 x]) ∧ Below W.heap.size W w') := fun W => by
      refine (hrr.out W).mono ?_
      rintro e w' ⟨P, h1, h2, (⟨_, h3⟩ | ⟨h4, _⟩)⟩
      · exact ⟨by rw [h1, h3], h2⟩
      · exact absurd h4 hx
    have ex : (x != x) = false := by simp
    clear hrp hrr hr hP hx
    go_enter Try.func4, Try.ntmps4
    go_wp2_with (first
      | (go_at_call 19; refine (RP.out w).mono ?_; rintro e1 w1 ⟨rfl, hb1⟩; have HB1 := Lib.hid hb1; clear hb1 RP)
      | (go_at_call 20; refine (RR.out w1).mono ?_; rintro e1 w2 ⟨rfl, hb2⟩; have HB2 := Lib.hid (HB1.out.trans (hb2.mono HB1.out.size)); clear hb2 RR)
      | (go_at_call 7; refine (haw.out w2).mono ?_; rintro e1 w3 ⟨rfl, hb3⟩; have HB3 := Lib.hid (HB2.out.trans (hb3.mono HB2.out.size)); clear hb3 haw))
    go_ret
    exact ⟨rfl, HB3.out⟩
end Go.Proofs.Ytoppgecajibelaa
