/-
  Sets of both packages beside one another: which blocks are whose; what is asked of the program's calls.
-/
import Derived.Test.YtoppgecajibelaaSg
namespace Go.Proofs.Ytoppgecajibelaa
open Go.RowKit
/-- How a set lies in memory: the blocks it takes, the pointer, how many documents, which are gone. -/
abbrev Lies := World → (Nat → Prop) → Nat → Nat → List Nat → Prop
/-- What every way to lie gives. -/
structure LiesC (M : Lies) : Prop where
  keep : ∀ {w w' : World} {F : Nat → Prop} {p n : Nat} {G : List Nat}, M w F p n G → (∀ k, F k → w'.heap[k]? = w.heap[k]?) → M w' F p n G
  lt : ∀ {w : World} {F : Nat → Prop} {p n : Nat} {G : List Nat}, M w F p n G → ∀ k, F k → k < w.heap.size
  ok : ∀ {w : World} {F : Nat → Prop} {p n : Nat} {G : List Nat}, M w F p n G → Ls.Ok n G ∧ n ≤ 1048576
def KillC (M : Lies) (f : FuncId) : Prop := ∀ (w : World) (F : Nat → Prop) (p n : Nat) (G : List Nat) (x : Int), M w F p n G →
  Calls Try.prog f #[.pointer (some ⟨p, 0, none⟩), .int .i64 x] w fun e w' => e = .returned (.bool (Ls.lv n G x)) ∧ ∃ F', M w' F' p n (Ls.kill n G x) ∧ KeptF F w w' ∧ ∀ k, F' k → F k ∨ w.heap.size ≤ k
def LiveC (M : Lies) (f : FuncId) : Prop := ∀ (w : World) (F : Nat → Prop) (p n : Nat) (G : List Nat) (x : Int), M w F p n G →
  Calls Try.prog f #[.pointer (some ⟨p, 0, none⟩), .int .i64 x] w fun e w' => e = .returned (.bool (Ls.lv n G x)) ∧ Below w.heap.size w w'
def CopyC (M : Lies) (f : FuncId) : Prop := ∀ (w : World) (F : Nat → Prop) (p n : Nat) (G : List Nat), M w F p n G →
  Calls Try.prog f #[.pointer (some ⟨p, 0, none⟩)] w fun e w' => ∃ F' p', e = .returned (.pointer (some ⟨p', 0, none⟩)) ∧ M w' F' p' n G ∧ (∀ k, F' k → w.heap.size ≤ k) ∧ Below w.heap.size w w'
def PackC (M : Lies) (f : FuncId) : Prop := ∀ (w : World) (F : Nat → Prop) (p n : Nat) (G : List Nat), M w F p n G →
  Calls Try.prog f #[.pointer (some ⟨p, 0, none⟩)] w fun e w' => e = .returned (.string ⟨(Ls.pack n G).toArray⟩) ∧ Below w.heap.size w w'
def NewC (M : Lies) (f : FuncId) : Prop := ∀ (w : World) (x : Int),
  Calls Try.prog f #[.int .i64 x] w fun e w' => Below w.heap.size w w' ∧ ((x < 0 ∧ e = .returned (.tuple #[.pointer none, .int .i64 1])) ∨ (1048576 < x ∧ e = .returned (.tuple #[.pointer none, .int .i64 4])) ∨
    ∃ (n : Nat) (F : Nat → Prop) (p : Nat), x = (n : Int) ∧ n ≤ 1048576 ∧ e = .returned (.tuple #[.pointer (some ⟨p, 0, none⟩), .int .i64 0]) ∧ M w' F p n [] ∧ ∀ k, F k → w.heap.size ≤ k)
def ReadC (M : Lies) (f : FuncId) : Prop := ∀ (w : World) (s : ByteArray), s.size ≤ 140737488353280 →
  Calls Try.prog f #[.string s] w fun e w' => ∃ P, e = .returned (.tuple #[P, .int .i64 (Ls.rd s.data.toList).1]) ∧ Below w.heap.size w w' ∧ (((Ls.rd s.data.toList).1 ≠ 0 ∧ P = .pointer none) ∨ ((Ls.rd s.data.toList).1 = 0 ∧ ∃ (F : Nat → Prop) (p : Nat), P = .pointer (some ⟨p, 0, none⟩) ∧ M w' F p (Ls.rd s.data.toList).2.1 (Ls.rd s.data.toList).2.2 ∧ ∀ k, F k → w.heap.size ≤ k))
/-! ### the document's sets -/
def RefF : Lies := fun w F p n G => ∃ B v, RefS w B p n G v ∧ ∀ k, F k ↔ (k = p ∨ v.ownBlock = some k)
theorem refF_lies : LiesC RefF := by
  refine ⟨?_, ?_, ?_⟩
  · rintro w w' F p n G ⟨B, v, h, hF⟩ e
    exact ⟨B, v, h.keep (e p ((hF p).2 (.inl rfl))) fun k hk => e k ((hF k).2 (.inr hk)), hF⟩
  · rintro w F p n G ⟨B, v, h, hF⟩ k hk
    rcases (hF k).1 hk with rfl | q
    · exact blk_lt h.box
    · exact (World.ownsRow.lt h.own k q).2
  · rintro w F p n G ⟨B, v, h, _⟩
    exact ⟨h.ok, h.lim⟩
theorem refF_kill : KillC RefF 13 := by
  rintro w F p n G x ⟨B, v, h, hF⟩
  have hp := blk_lt h.box
  have hb := h.base
  refine (killR_any w B p n G v h (by omega) x).mono ?_
  rintro e w' ⟨h1, h2, v', h3, h4, h5⟩
  refine ⟨h1, fun k => k = p ∨ v'.ownBlock = some k, ⟨B, v', h3, fun k => Iff.rfl⟩, ⟨h2.os, h2.tape, h2.output, h2.size, fun k hk hn => h4 k hk (fun q => hn ((hF k).2 (.inl q))) (fun q => hn ((hF k).2 (.inr q)))⟩, ?_⟩
  rintro k (q | q)
  · exact .inl ((hF k).2 (.inl q))
  · rcases h5 k q with r | r
    · exact .inl ((hF k).2 (.inr r))
    · exact .inr r
theorem refF_live : LiveC RefF 16 := by
  rintro w F p n G x ⟨B, v, h, hF⟩
  refine (liveR_any w B p n G v h x).mono ?_
  rintro e w' ⟨h1, rfl⟩
  exact ⟨h1, Below.refl _ _⟩
theorem refF_copy : CopyC RefF 11 := by
  rintro w F p n G ⟨B, v, h, hF⟩
  refine (copyS_any w B p n G v h).mono ?_
  rintro e w' ⟨h1, p', v', h2, h3⟩
  refine ⟨fun k => k = p' ∨ v'.ownBlock = some k, p', h2, ⟨_, v', h3, fun k => Iff.rfl⟩, ?_, h1⟩
  rintro k (q | q)
  · rw [q]; exact h3.base
  · exact (World.ownsRow.lt h3.own k q).1
theorem refF_pack : PackC RefF 18 := by
  rintro w F p n G ⟨B, v, h, hF⟩
  exact packS_any w B p n G v h
theorem refF_new : NewC RefF 9 := by
  intro w x
  refine (newR_any w x).mono ?_
  rintro e w' ⟨h1, (h2 | h2 | ⟨n, h2, h3, h4, h5⟩)⟩
  · exact ⟨h1, .inl h2⟩
  · exact ⟨h1, .inr (.inl h2)⟩
  · refine ⟨h1, .inr (.inr ⟨n, fun k => k = w.heap.size ∨ (Value.slice none 0 0).ownBlock = some k, w.heap.size, h2, h3, h4, ⟨_, _, h5, fun k => Iff.rfl⟩, ?_⟩)⟩
    rintro k (q | q)
    · omega
    · cases q
theorem refF_read : ReadC RefF 20 := by
  intro w s hs
  refine (readS_any w s hs).mono ?_
  rintro e w' ⟨P, h1, h2, (h3 | ⟨h3, p, v, h4, h5⟩)⟩
  · exact ⟨P, h1, h2, .inl h3⟩
  · refine ⟨P, h1, h2, .inr ⟨h3, fun k => k = p ∨ v.ownBlock = some k, p, h4, ⟨_, v, h5, fun k => Iff.rfl⟩, ?_⟩⟩
    rintro k (q | q)
    · rw [q]; exact h5.base
    · exact (World.ownsRow.lt h5.own k q).1
/-! ### whose blocks -/
theorem Lies.at_iff {M : Lies} {w : World} {F F' : Nat → Prop} {p n : Nat} {G : List Nat} (h : M w F p n G) (e : ∀ k, F k ↔ F' k) : M w F' p n G := by
  have : F = F' := funext fun k => propext (e k)
  rw [← this]
  exact h
open Classical in
/-- The owner of one list's blocks changes: those of all others stay. -/
theorem owner (o : Nat → Nat) (i N : Nat) (hi : i ≠ 0) (F' : Nat → Prop) (h1 : ∀ k, F' k → o k = i ∨ N ≤ k) (h2 : ∀ k, o k ≠ 0 → k < N) :
    ∃ o' : Nat → Nat, (∀ k, o' k = i ↔ F' k) ∧ (∀ j, j ≠ i → j ≠ 0 → ∀ k, o' k = j ↔ o k = j) := by
  refine ⟨fun k => if F' k then i else if o k = i then 0 else o k, fun k => ?_, fun j hj h0 k => ?_⟩
  · by_cases q : F' k
    · simp [q]
    · by_cases r : o k = i
      · simp [q, r]; omega
      · simp [q, r]
  · by_cases q : F' k
    · simp only [q, if_true]
      constructor
      · intro e; exact absurd e.symm hj
      · intro e
        rcases h1 k q with r | r
        · omega
        · have := h2 k (by omega); omega
    · by_cases r : o k = i
      · simp only [q, if_false, r, if_true]
        omega
      · simp [q, r]
/-- Four sets beside one another, in memory of the call's own. -/
structure St (M : Lies) (w0 w : World) (o : Nat → Nat) (ps pc pw pv n : Nat) (Gs Gc Gw Gv : List Nat) : Prop where
  s : M w (fun k => o k = 1) ps n Gs
  c : M w (fun k => o k = 2) pc n Gc
  r : RefF w (fun k => o k = 3) pw n Gw
  v : RefF w (fun k => o k = 4) pv n Gv
  base : ∀ k, o k ≠ 0 → w0.heap.size ≤ k ∧ k < w.heap.size
  old : Below w0.heap.size w0 w
end Go.Proofs.Ytoppgecajibelaa
