/-
  Two disks, the program's and the given one, of the same bytes and names: a call of each, in either order.
-/
import Derived.Test.YtdohenbicepicaaDa
namespace Go.Proofs.Ytdohenbicepicaa
open Go.RowKit Go.Maps

/-- The program's disk and the given one, both D, in blocks of their own. -/
structure Pair (w : World) (p b : Nat) (D : Vf.Dk) (c : Nat) (F G : Nat → Prop) : Prop where
  pa : PA w p D F
  ra : RA w b D G
  ok : Vf.OkF D c 1048576
  ap : ∀ k, F k → ¬ G k
/-- The two disks' blocks, and those that are newer than wb. -/
def Own2 (wb : World) (F G H : Nat → Prop) : Prop := ∀ k, H k → F k ∨ G k ∨ wb.heap.size ≤ k
/-- Where the two calls stand: neither, the program's, the given one's, both. -/
structure Ph (wb : World) (p b : Nat) (D1 D2 : Vf.Dk) (F G : Nat → Prop) (wx : World) : Prop where
  st : ∃ F' G', PA wx p D1 F' ∧ RA wx b D2 G' ∧ (∀ k, F' k → ¬ G' k) ∧ Own2 wb F G F' ∧ Own2 wb F G G'
  kept : KeptF (fun k => F k ∨ G k) wb wx
theorem PA.lt {w : World} {p : Nat} {D : Vf.Dk} {F : Nat → Prop} (h : PA w p D F) : ∀ k, F k → k < w.heap.size := by obtain ⟨_, _, _, _, _, _, h⟩ := h; exact h
theorem RA.lt {w : World} {b : Nat} {D : Vf.Dk} {F : Nat → Prop} (h : RA w b D F) : ∀ k, F k → k < w.heap.size := by obtain ⟨_, _, _, _, _, h⟩ := h; exact h
theorem kept_own {wb wx w' : World} {F G H : Nat → Prop} (h : KeptF (fun k => F k ∨ G k) wb wx) (ho : Own2 wb F G H) (hk : KeptF H wx w') : KeptF (fun k => F k ∨ G k) wb w' :=
  ⟨hk.os.trans h.os, hk.tape.trans h.tape, hk.output.trans h.output, Nat.le_trans h.size hk.size, fun k hk1 hk2 =>
    (hk.block k (Nat.lt_of_lt_of_le hk1 h.size) (fun e => by
      rcases ho k e with e | e | e
      · exact hk2 (.inl e)
      · exact hk2 (.inr e)
      · omega)).trans (h.block k hk1 hk2)⟩
theorem Ph.progGo {wb wx : World} {p b : Nat} {D1 D2 : Vf.Dk} {F G : Nat → Prop} {f : Nat} {args : Array Value} {r : Int × Vf.Dk} (h : Ph wb p b D1 D2 F G wx) (hc : ∀ wx F', PA wx p D1 F' → Calls Try.prog f args wx (PPost wx p F' r)) :
    Calls Try.prog f args wx fun e w' => e = .returned (.int .i64 r.1) ∧ Ph wb p b r.2 D2 F G w' := by
  obtain ⟨⟨F', G', h1, h2, h3, h4, h5⟩, hk⟩ := h
  have hs := hk.size
  refine (hc wx F' h1).mono ?_
  rintro e w' ⟨rfl, hA, hK⟩
  refine ⟨rfl, ⟨_, G', hA, h2.keep (fun k hk2 => hK.block k (h2.lt k hk2) (fun e => h3 k e hk2)) hK.size, fun k hk1 hk2 => ?_, fun k hk1 => ?_, h5⟩, kept_own hk h4 hK⟩
  · rcases hk1 with hk1 | hk1
    · exact h3 k hk1 hk2
    · have := h2.lt k hk2; omega
  · rcases hk1 with hk1 | hk1
    · exact h4 k hk1
    · exact .inr (.inr (by omega))
theorem Ph.refGo {wb wx : World} {p b : Nat} {D1 D2 : Vf.Dk} {F G : Nat → Prop} {f : Nat} {args : Array Value} {r : Int × Vf.Dk} (h : Ph wb p b D1 D2 F G wx) (hc : ∀ wx G', RA wx b D2 G' → Calls Try.prog f args wx (RPost wx b G' r)) :
    Calls Try.prog f args wx fun e w' => e = .returned (.int .i64 r.1) ∧ Ph wb p b D1 r.2 F G w' := by
  obtain ⟨⟨F', G', h1, h2, h3, h4, h5⟩, hk⟩ := h
  have hs := hk.size
  refine (hc wx G' h2).mono ?_
  rintro e w' ⟨rfl, hA, hK⟩
  refine ⟨rfl, ⟨F', _, h1.keep (fun k hk2 => hK.block k (h1.lt k hk2) (fun e => h3 k hk2 e)) hK.size, hA, fun k hk1 hk2 => ?_, h4, fun k hk1 => ?_⟩, kept_own hk h5 hK⟩
  · rcases hk2 with hk2 | hk2
    · exact h3 k hk1 hk2
    · have := h1.lt k hk1; omega
  · rcases hk1 with hk1 | hk1
    · exact h5 k hk1
    · exact .inr (.inr (by omega))
theorem Ph.cell {wb wx : World} {p b : Nat} {D1 D2 : Vf.Dk} {F G : Nat → Prop} (h : Ph wb p b D1 D2 F G wx) {x i : Nat} {v : Value} (hx : x < wb.heap.size) (hF : ∀ k, F k ∨ G k → k < x) (hv : wb.cell? ⟨x, i, none⟩ = some v) : wx.cell? ⟨x, i, none⟩ = some v :=
  (World.cell?_of_block (h.kept.block x hx (fun e => Nat.lt_irrefl _ (hF x e)))).trans hv
theorem Ph.drew {wb wx : World} {p b : Nat} {D1 D2 : Vf.Dk} {F G : Nat → Prop} (h : Ph wb p b D1 D2 F G wx) : Ph wb p b D1 D2 F G wx.drew := by
  obtain ⟨⟨F', G', h1, h2, h3⟩, hk⟩ := h
  exact ⟨⟨F', G', h1.keep (fun _ _ => rfl) (Nat.le_refl _), h2.keep (fun _ _ => rfl) (Nat.le_refl _), h3⟩, hk.drew⟩
theorem Pair.ph {w : World} {p b : Nat} {D : Vf.Dk} {c : Nat} {F G : Nat → Prop} (h : Pair w p b D c F G) (o : Obj) : Ph (w.alloc o) p b D D F G (w.alloc o) :=
  ⟨⟨F, G, h.pa.keep (fun k hk => heap_alloc_old w _ (h.pa.lt k hk)) (by simp), h.ra.keep (fun k hk => heap_alloc_old w _ (h.ra.lt k hk)) (by simp), h.ap, fun k hk => .inl hk, fun k hk => .inr (.inl hk)⟩, KeptF.refl _ _⟩
/-- What a pair's step leaves. -/
def PairPost (w : World) (p b : Nat) (D : Vf.Dk) (c : Nat) (F G : Nat → Prop) (w' : World) : Prop :=
  ∃ F' G', Pair w' p b D c F' G' ∧ KeptF (fun k => F k ∨ G k) w w' ∧ (∀ k, F' k ∨ G' k → F k ∨ G k ∨ w.heap.size ≤ k)
theorem Ph.post {w w' : World} {p b : Nat} {D : Vf.Dk} {c : Nat} {F G : Nat → Prop} {o : Obj} (h : Ph (w.alloc o) p b D D F G w') (ok : Vf.OkF D c 1048576) : PairPost w p b D c F G w' := by
  obtain ⟨⟨F', G', h1, h2, h3, h4, h5⟩, hk⟩ := h
  have e : (w.alloc o).heap.size = w.heap.size + 1 := by simp
  refine ⟨F', G', ⟨h1, h2, ok, h3⟩, ⟨hk.os, hk.tape, hk.output, by have := hk.size; omega, fun k hk1 hk2 => (hk.block k (by omega) hk2).trans (heap_alloc_old w _ hk1)⟩, fun k hk => ?_⟩
  rcases hk with hk | hk
  · rcases h4 k hk with e | e | e
    · exact .inl e
    · exact .inr (.inl e)
    · exact .inr (.inr (by omega))
  · rcases h5 k hk with e | e | e
    · exact .inl e
    · exact .inr (.inl e)
    · exact .inr (.inr (by omega))

/-- A fault by a letter. -/
def faultZ (s : ByteArray) : Int := if s.toList == ([105] : List UInt8) then 14 else if s.toList == ([102] : List UInt8) then 13 else if s.toList == ([100] : List UInt8) then 15 else 11
theorem fault_any (w : World) (s : ByteArray) : Calls Try.prog 33 #[.string s] w fun e w' => e = .returned (.int .i64 (faultZ s)) ∧ w = w' := by
  unfold faultZ
  cases h1 : s.toList == ([105] : List UInt8)
  · cases h2 : s.toList == ([102] : List UInt8)
    · cases h3 : s.toList == ([100] : List UInt8)
      all_goals
        go_enter Try.func33, Try.ntmps33
        go_wp2_with fail
        go_ret
        exact ⟨by first | rfl | simp, rfl⟩
    · go_enter Try.func33, Try.ntmps33
      go_wp2_with fail
      go_ret
      exact ⟨by first | rfl | simp, rfl⟩
  · go_enter Try.func33, Try.ntmps33
    go_wp2_with fail
    go_ret
    exact ⟨by first | rfl | simp, rfl⟩
end Go.Proofs.Ytdohenbicepicaa
