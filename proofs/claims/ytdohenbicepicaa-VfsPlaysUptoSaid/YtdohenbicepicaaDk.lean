/-
  Two pairs of disks in one memory.
-/
import Derived.Test.YtdohenbicepicaaDe
import Derived.Test.YtdohenbicepicaaDi
import Derived.Test.YtdohenbicepicaaDj
namespace Go.Proofs.Ytdohenbicepicaa
open Go.RowKit Go.Maps
set_option linter.unusedVariables false

theorem does_any (w : World) (p b : Nat) (D : Vf.Dk) (c : Nat) (F G : Nat → Prop) (h : Pair w p b D c F G) (hc : c ≤ 1048000) (kind n : Int) (P Q : ByteArray) (hP : P.size ≤ 1048576) (hQ : Q.size ≤ 1048576) (hn : -9223372036854775808 ≤ n ∧ n ≤ 9223372036854775807) :
    Calls Try.prog 11 #[.pointer (some ⟨p, 0, none⟩), .pointer (some ⟨b, 0, none⟩), stepV kind n P Q] w (DoesPost w p b c F G) := by
  by_cases hk : kind < 1 ∨ 9 < kind
  · exact does_none w p b D c F G h kind n P Q hk
  · have h9 : kind = 1 ∨ kind = 2 ∨ kind = 3 ∨ kind = 4 ∨ kind = 5 ∨ kind = 6 ∨ kind = 7 ∨ kind = 8 ∨ kind = 9 := by omega
    rcases h9 with rfl | rfl | rfl | rfl | rfl | rfl | rfl | rfl | rfl
    · exact does_create w p b D c F G h hc n P Q hP hQ hn
    · exact does_append w p b D c F G h hc n P Q hP hQ hn
    · exact does_sync w p b D c F G h hc n P Q hP hQ hn
    · exact does_rename w p b D c F G h hc n P Q hP hQ hn
    · exact does_remove w p b D c F G h hc n P Q hP hQ hn
    · exact does_syncDir w p b D c F G h hc n P Q hP hQ hn
    · exact does_arm w p b D c F G h hc n P Q hP hQ hn
    · exact does_calm w p b D c F G h n P Q
    · exact does_restart w p b D c F G h hc n P Q hP hQ hn

/-- Two pairs of disks, new since w, c calls behind; the block x is none of theirs. -/
def Duo (w wx : World) (p1 b1 p2 b2 c x : Nat) : Prop :=
  ∃ D1 F1 G1 D2 F2 G2, Pair wx p1 b1 D1 c F1 G1 ∧ Pair wx p2 b2 D2 c F2 G2 ∧ (∀ k, F1 k ∨ G1 k → w.heap.size ≤ k ∧ k ≠ x ∧ ¬ (F2 k ∨ G2 k)) ∧ (∀ k, F2 k ∨ G2 k → w.heap.size ≤ k ∧ k ≠ x) ∧ Below w.heap.size w wx
theorem Duo.swap {w wx : World} {p1 b1 p2 b2 c x : Nat} (h : Duo w wx p1 b1 p2 b2 c x) : Duo w wx p2 b2 p1 b1 c x := by
  obtain ⟨D1, F1, G1, D2, F2, G2, h1, h2, h3, h4, h5⟩ := h
  exact ⟨D2, F2, G2, D1, F1, G1, h2, h1, fun k hk => ⟨(h4 k hk).1, (h4 k hk).2, fun e => (h3 k e).2.2 hk⟩, fun k hk => ⟨(h3 k hk).1, (h3 k hk).2.1⟩, h5⟩
theorem Pair.keep {w w' : World} {p b : Nat} {D : Vf.Dk} {c : Nat} {F G : Nat → Prop} (h : Pair w p b D c F G) (e : ∀ k, F k ∨ G k → w'.heap[k]? = w.heap[k]?) (hs : w.heap.size ≤ w'.heap.size) : Pair w' p b D c F G :=
  ⟨h.pa.keep (fun k hk => e k (.inl hk)) hs, h.ra.keep (fun k hk => e k (.inr hk)) hs, h.ok, h.ap⟩
theorem Pair.lt {w : World} {p b : Nat} {D : Vf.Dk} {c : Nat} {F G : Nat → Prop} (h : Pair w p b D c F G) : ∀ k, F k ∨ G k → k < w.heap.size := fun k hk => hk.elim (h.pa.lt k) (h.ra.lt k)
theorem Duo.fresh {w wx w' : World} {p1 b1 p2 b2 c x y : Nat} (h : Duo w wx p1 b1 p2 b2 c x) (hb : Below wx.heap.size wx w') (hy : wx.heap.size ≤ y ∨ y = x) : Duo w w' p1 b1 p2 b2 c y := by
  obtain ⟨D1, F1, G1, D2, F2, G2, h1, h2, h3, h4, h5⟩ := h
  refine ⟨D1, F1, G1, D2, F2, G2, h1.keep (fun k hk => hb.block k (h1.lt k hk)) hb.size, h2.keep (fun k hk => hb.block k (h2.lt k hk)) hb.size, fun k hk => ⟨(h3 k hk).1, fun e => ?_, (h3 k hk).2.2⟩, fun k hk => ⟨(h4 k hk).1, fun e => ?_⟩, h5.trans (hb.mono h5.size)⟩
  · rcases hy with hy | hy
    · have := h1.lt k hk; omega
    · exact (h3 k hk).2.1 (e.trans hy)
  · rcases hy with hy | hy
    · have := h2.lt k hk; omega
    · exact (h4 k hk).2 (e.trans hy)
theorem Duo.does1 {w wx : World} {p1 b1 p2 b2 c x : Nat} (h : Duo w wx p1 b1 p2 b2 c x) (hx : x < wx.heap.size) (hc : c ≤ 1048000) (kind n : Int) (P Q : ByteArray) (hP : P.size ≤ 1048576) (hQ : Q.size ≤ 1048576) (hn : -9223372036854775808 ≤ n ∧ n ≤ 9223372036854775807) :
    Calls Try.prog 11 #[.pointer (some ⟨p1, 0, none⟩), .pointer (some ⟨b1, 0, none⟩), stepV kind n P Q] wx fun e w' => e = .returned (.bool true) ∧ Duo w w' p1 b1 p2 b2 (c + 1) x ∧ w'.heap[x]? = wx.heap[x]? ∧ wx.heap.size ≤ w'.heap.size := by
  obtain ⟨D1, F1, G1, D2, F2, G2, h1, h2, h3, h4, h5⟩ := h
  refine (does_any wx p1 b1 D1 c F1 G1 h1 hc kind n P Q hP hQ hn).mono ?_
  rintro e w' ⟨rfl, D', F', G', g1, g2, g3⟩
  have hs := h5.size
  have h2' : Pair w' p2 b2 D2 c F2 G2 := h2.keep (fun k hk => g2.block k (h2.lt k hk) (fun e => (h3 k e).2.2 hk)) g2.size
  refine ⟨rfl, ⟨D', F', G', D2, F2, G2, g1, ⟨h2'.pa, h2'.ra, h2'.ok.mono (Nat.le_succ c), h2'.ap⟩, fun k hk => ?_, h4, KeptF.below h5 g2 (fun k hk => (h3 k hk).1) hs⟩, g2.block x hx (fun e => (h3 x e).2.1 rfl), g2.size⟩
  rcases g3 k hk with e | e | e
  · exact h3 k (.inl e)
  · exact h3 k (.inr e)
  · exact ⟨by omega, by omega, fun e2 => by have := h2.lt k e2; omega⟩
theorem Duo.looks1 {w wx : World} {p1 b1 p2 b2 c x : Nat} (h : Duo w wx p1 b1 p2 b2 c x) (hx : x < wx.heap.size) (hc : c ≤ 1048000) (P : ByteArray) (hP : P.size ≤ 1048576) :
    Calls Try.prog 12 #[.pointer (some ⟨p1, 0, none⟩), .pointer (some ⟨b1, 0, none⟩), .string P] wx fun e w' => e = .returned (.bool true) ∧ Duo w w' p1 b1 p2 b2 c x ∧ w'.heap[x]? = wx.heap[x]? ∧ wx.heap.size ≤ w'.heap.size := by
  have h' := h
  obtain ⟨D1, F1, G1, D2, F2, G2, h1, h2, h3, h4, h5⟩ := h'
  exact (looks_any wx p1 b1 D1 c F1 G1 h1 hc P hP).mono fun e w' hq => ⟨hq.1, h.fresh hq.2 (.inr rfl), hq.2.block x hx, hq.2.size⟩
/-- The first pair's names, as the given disk has them. -/
theorem Duo.names {w wx : World} {p1 b1 p2 b2 c x : Nat} (h : Duo w wx p1 b1 p2 b2 c x) : ∃ (D : Vf.Dk) (a : Option Addr) (cp : Nat), wx.cell? ⟨b1, 1, none⟩ = some (.slice a D.names.length cp) ∧ D.names.length ≤ c ∧ (0 < D.names.length → ∃ g, a = some ⟨g, 0, none⟩) ∧ ∀ g, a = some ⟨g, 0, none⟩ → ∀ i (_ : i < D.names.length), wx.cell? ⟨g, i * 2, none⟩ = some (.string D.names[i].name) ∧ D.names[i].name.size ≤ 40 := by
  obtain ⟨D1, F1, G1, D2, F2, G2, h1, h2, h3, h4, h5⟩ := h
  obtain ⟨vf, vn, vk, hA, _, _⟩ := h1.ra
  obtain ⟨a, cp, hv, _, _, hc⟩ := OwnK.lks hA.names
  refine ⟨D1, a, cp, by rw [← hv]; exact hA.row.cell 1, h1.ok.1.ok.names, fun h0 => ?_, fun g hg i hi => ?_⟩
  · obtain ⟨g, h6, _⟩ := hc h0
    exact ⟨g, h6⟩
  · obtain ⟨g', h6, _, h7⟩ := hc (by omega)
    rw [hg] at h6
    simp at h6
    subst h6
    have hk := (h1.ok.1.ok.nums _ (.inl (List.getElem_mem hi))).2.2.1
    refine ⟨(h7 i hi).1, ?_⟩
    unfold Vf.okN at hk
    simp at hk
    omega
end Go.Proofs.Ytdohenbicepicaa
