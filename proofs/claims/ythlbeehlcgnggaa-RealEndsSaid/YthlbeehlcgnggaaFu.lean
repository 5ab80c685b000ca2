/-
  What the frames share: a slice of words of 64 bits that came in.
-/
import Derived.Test.YthlbeehlcgnggaaMw
import Derived.Test.YthlbeehlcgnggaaRu
import Derived.Test.YthlbeehlcgnggaaRows
import Derived.ProofKit
import Derived.OpenShut
import Derived.ShutString
import Derived.ChangeOld
import Derived.SizedLaws
namespace Go.Proofs.Ythlbeehlcgnggaa.frameU
open Go.ChangeShapes Go.WideShapes Go.ChangeAt Go.RowKit
open Go.ChangeMaps (open_string shut_string)

theorem laidOut : laidOutB Try.prog = true := by kernel_rfl

/-- What a walk is told of a slice of words that came in. -/
structure InU (w : World) (v : Value) (zs : List Nat) : Prop where
  words : WordS w v zs
  wf : WordsU zs
  nilOr : v = .slice none 0 0 ∨ ∃ x l c, v = .slice (some x) l c
theorem words_of {H : Type} {enc : TypeId × Value → H} {W : World} {t e : TypeId} {a : Option Addr} {len cap : Nat} {d : DataW H} {p : List MemPlace} (ht : Try.prog.underlying t = some (.slice e)) (he : Try.prog.underlying e = some (.int .u64)) (hc : Try.prog.cellsOf e = 1)
    (h : DataW.Trod enc Try.prog W 0 (fun _ => true) true t (.slice a len cap) d p) : ∃ zs, InU W (.slice a len cap) zs ∧ (zs = [] ∨ ∃ elems spare, d = .slice elems spare ∧ zs.length ≤ elems.length) := by
  obtain ⟨fuel, hf⟩ := h
  rcases open_ints ht he hc hf with ⟨hcs, hx⟩ | ⟨x, l, c, zs, hcs, _, hl, hm, hz, hx, hcell, hwz⟩
  · simp [Value.cells] at hcs
    obtain ⟨rfl, rfl, rfl⟩ := hcs
    exact ⟨[], ⟨⟨none, 0, rfl, Nat.le_refl _, by omega, fun h => by simp at h⟩, fun z hz => absurd hz List.not_mem_nil, .inl rfl⟩, .inl rfl⟩
  · simp [Value.cells] at hcs
    obtain ⟨rfl, rfl, rfl⟩ := hcs
    simp only [if_true] at hz
    have hd : d = .slice (lits .u64 (zs.take len)) (lits .u64 (zs.drop len)) := congrArg Prod.fst hx
    have hle : len ≤ (lits (H := H) .u64 (zs.take len)).length := by simp [lits]; omega
    have hzt : ((zs.take len).map Int.toNat).length = len := by rw [List.length_map, List.length_take]; omega
    have hwf : ∀ z ∈ zs, 0 ≤ z ∧ z < 18446744073709551616 := fun z hz => by
      have h := hwz z hz
      have hw : (IntKind.u64.min ≤ z ∧ z ≤ IntKind.u64.max) := by simpa [Lit.wf] using h
      have e1 : IntKind.u64.min = 0 := rfl
      have e2 : IntKind.u64.max = 18446744073709551615 := rfl
      rw [e1, e2] at hw
      omega
    have hspot : 0 < len → ∃ b off, x = ⟨b, off, none⟩ ∧ b < W.heap.size := by
      intro h0
      obtain ⟨b, off, spot⟩ := x
      have hc0 := hcell 0 (by omega)
      have hspot : spot = none := by simpa [Addr.add] using World.cell?_spot hc0
      subst hspot
      exact ⟨b, off, rfl, World.block_lt_of_cell? W _ hc0⟩
    refine ⟨(zs.take len).map Int.toNat, ⟨⟨some x, cap, by rw [hzt], by omega, by unfold maxLen at hm; omega, fun h0 => ?_⟩, fun z hz => ?_, .inr ⟨_, _, _, rfl⟩⟩, .inr ⟨_, _, hd, by rw [hzt]; exact hle⟩⟩
    · obtain ⟨b, off, rfl, hb⟩ := hspot (by omega)
      refine ⟨b, off, rfl, hb, fun j hj => ?_⟩
      have hj' : j < zs.length := by omega
      have := hcell j hj'
      rw [show (⟨b, off, none⟩ : Addr).add j = ⟨b, off + j, none⟩ from by unfold Addr.add; split <;> simp_all] at this
      rw [this, List.getElem_map, List.getElem_take]
      have h2 := (hwf zs[j] (List.getElem_mem hj')).1
      simp [List.getD, List.getElem?_eq_getElem hj', Int.toNat_of_nonneg h2]
    · obtain ⟨y, hy, rfl⟩ := List.mem_map.1 hz
      have := hwf y (List.mem_of_mem_take hy)
      omega

end Go.Proofs.Ythlbeehlcgnggaa.frameU
