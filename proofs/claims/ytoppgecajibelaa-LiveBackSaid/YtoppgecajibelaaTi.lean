/-
  What is asked of the program's package holds; the statement LiveNil.
-/
import Derived.Test.YtoppgecajibelaaTh
namespace Go.Proofs.Ytoppgecajibelaa
open Go.RowKit
/-- How the program's sets lie in memory. -/
def PrgF : Lies := fun w F p n G => ∃ B v, SetS w B p n G v ∧ ∀ k, F k ↔ (k = p ∨ v.ownBlock = some k)
theorem prgF_lies : LiesC PrgF := by
  refine ⟨?_, ?_, ?_⟩
  · rintro w w' F p n G ⟨B, v, h, hF⟩ e
    exact ⟨B, v, h.keep (e p ((hF p).2 (.inl rfl))) fun k hk => e k ((hF k).2 (.inr hk)), hF⟩
  · rintro w F p n G ⟨B, v, h, hF⟩ k hk
    rcases (hF k).1 hk with rfl | q
    · exact blk_lt h.box
    · exact (World.ownsRow.lt h.own k q).2
  · rintro w F p n G ⟨B, v, h, _⟩
    exact ⟨h.ok, h.lim⟩
theorem prgF_kill : KillC PrgF 12 := by
  rintro w F p n G x ⟨B, v, h, hF⟩
  refine (killP_any w B p n G v h x).mono ?_
  rintro e w' ⟨h1, h2, h3, h4⟩
  exact ⟨h1, F, ⟨B, v, h3, hF⟩, ⟨h2.os, h2.tape, h2.output, h2.size, fun k hk hn => h4 k (fun q => hn ((hF k).2 (.inl q))) (fun q => hn ((hF k).2 (.inr q)))⟩, fun k hk => .inl hk⟩
theorem prgF_live : LiveC PrgF 15 := by
  rintro w F p n G x ⟨B, v, h, hF⟩
  refine (liveP_any w B p n G v h x).mono ?_
  rintro e w' ⟨h1, rfl⟩
  exact ⟨h1, Below.refl _ _⟩
theorem prgF_copy : CopyC PrgF 10 := by
  rintro w F p n G ⟨B, v, h, hF⟩
  refine (copyP_any w B p n G v h).mono ?_
  rintro e w' ⟨h1, p', v', h2, h3⟩
  refine ⟨fun k => k = p' ∨ v'.ownBlock = some k, p', h2, ⟨_, v', h3, fun k => Iff.rfl⟩, ?_, h1⟩
  rintro k (q | q)
  · rw [q]; exact h3.base
  · exact (World.ownsRow.lt h3.own k q).1
theorem prgF_pack : PackC PrgF 17 := by
  rintro w F p n G ⟨B, v, h, hF⟩
  exact packP_any w B p n G v h
theorem prgF_count : CountC PrgF 14 := by
  rintro w F p n G ⟨B, v, h, hF⟩
  exact countS_any w B p n G v h
theorem prgF_new : NewC PrgF 8 := by
  intro w x
  refine (newP_any w x).mono ?_
  rintro e w' ⟨h1, (h2 | h2 | ⟨n, p, v, h2, h3, h4, h5⟩)⟩
  · exact ⟨h1, .inl h2⟩
  · exact ⟨h1, .inr (.inl h2)⟩
  · refine ⟨h1, .inr (.inr ⟨n, fun k => k = p ∨ v.ownBlock = some k, p, h2, h3, h4, ⟨_, v, h5, fun k => Iff.rfl⟩, ?_⟩)⟩
    rintro k (q | q)
    · rw [q]; exact h5.base
    · exact (World.ownsRow.lt h5.own k q).1
theorem prgF_read : ReadC PrgF 19 := by
  intro w s hs
  refine (readP_any w s hs).mono ?_
  rintro e w' ⟨P, h1, h2, (h3 | ⟨h3, p, v, h4, h5⟩)⟩
  · exact ⟨P, h1, h2, .inl h3⟩
  · refine ⟨P, h1, h2, .inr ⟨h3, fun k => k = p ∨ v.ownBlock = some k, p, h4, ⟨_, v, h5, fun k => Iff.rfl⟩, ?_⟩⟩
    rintro k (q | q)
    · rw [q]; exact h5.base
    · exact (World.ownsRow.lt h5.own k q).1
theorem prog : ProgC PrgF := ⟨prgF_lies, prgF_new, prgF_kill, prgF_live, prgF_copy, prgF_pack, prgF_count, prgF_read, awake15_any⟩
set_option maxRecDepth 100000 in
set_option maxHeartbeats 4000000 in
theorem nil15_walk (x : Int) (w : World) : Calls Try.prog 6 #[.int .i64 x] w fun e w' => e = .returned (.bool true) ∧ Below w.heap.size w w' := by
  have HA := Lib.hid (awake15_any w)
  have H1 := Lib.hid (count_none w)
  have H2 := Lib.hid (fun W : World => kill_none W x)
  have H3 := Lib.hid (fun W : World => live_none W x)
  have H4 := Lib.hid (fun W : World => copy_none W)
  have H5 := Lib.hid (fun W : World => pack_none W)
  go_enter Try.func6, Try.ntmps6
  go_wp2_with (first
    | (go_at_call 14; refine H1.out.mono ?_; rintro e1 w1 ⟨rfl, rfl⟩; clear H1)
    | (go_at_call 7; refine HA.out.mono ?_; rintro e1 w2 ⟨rfl, hb2⟩; have HB2 := Lib.hid hb2; clear HA hb2)
    | (go_at_call 12; refine (H2.out _).mono ?_; rintro e1 w3 ⟨rfl, rfl⟩; clear H2)
    | (go_at_call 15; refine (H3.out _).mono ?_; rintro e1 w3 ⟨rfl, rfl⟩; clear H3)
    | (go_at_call 10; refine (H4.out _).mono ?_; rintro e1 w3 ⟨rfl, rfl⟩; clear H4)
    | (go_at_call 17; refine (H5.out _).mono ?_; rintro e1 w3 ⟨rfl, rfl⟩; clear H5))
  go_ret
  exact ⟨rfl, HB2.out⟩
end Go.Proofs.Ytoppgecajibelaa
