/-
  The program's sets in memory: Kill.
-/
import Derived.Test.YtoppgecajibelaaTa
namespace Go.Proofs.Ytoppgecajibelaa
open Go.RowKit
/-- A cell of an own row of bytes written. -/
theorem ownB_set {w : World} {B g q c i b : Nat} {l m : List UInt8} (h : OwnB w B (.slice (some ⟨g, 0, none⟩) q c) l) (hm : m.length = l.length) (hi : i < l.length) (e : ∀ j (h1 : j < m.length) (h2 : j < l.length), m[j] = if j = i then UInt8.ofNat b else l[j]) (hb : b < 256) :
    OwnB (w.setCell ⟨g, i, none⟩ (.int .u8 (b : Int))) B (.slice (some ⟨g, 0, none⟩) q c) m := by
  unfold OwnB at *
  rcases h.2 with ⟨h1, _⟩ | ⟨g', cap, cur, h1, hg, hh, hnc, hcp, hcs, htake⟩
  · cases h1
  · injection h1 with h1 h2 h3
    injection h1 with h1
    obtain rfl : g = g' := by injection h1
    subst h3
    refine ⟨by rw [bytesV_length, hm, Nat.mul_one], .inr ⟨g, c, cur.setIfInBounds i (.int .u8 (b : Int)), by rw [hm, ← h2], hg, heap_set _ _ _ _ _ _ _ hh, by omega, hcp, by rw [Array.size_setIfInBounds]; exact hcs, ?_⟩⟩
    rw [Nat.mul_one] at htake ⊢
    rw [hm]
    apply List.ext_getElem?
    intro j
    by_cases hj : j < l.length
    · have h7 : (cur.toList.take l.length)[j]? = (bytesV l)[j]? := by rw [htake]
      rw [List.getElem?_take_of_lt hj] at h7 ⊢
      rw [Array.toList_setIfInBounds, List.getElem?_set]
      have e2 := e j (by omega) hj
      by_cases hij : i = j
      · subst hij
        rw [if_pos rfl] at e2
        simp [bytesV, hm, hj, e2, hcs]
        omega
      · rw [if_neg (fun x => hij x.symm)] at e2
        rw [if_neg hij, h7]
        simp [bytesV, hm, hj, e2]
    · rw [List.getElem?_eq_none (by simp; omega), List.getElem?_eq_none (by rw [bytesV_length]; omega)]
/-- A document's bit set in the bytes. -/
theorem SetS.bit {w : World} {B n g c d : Nat} {G : List Nat} (h : OwnB w B (.slice (some ⟨g, 0, none⟩) ((n + 7) / 8) c) (Ls.bytesN n (Ls.val G))) (hok : Ls.Ok n G) (hd : d < n) (hG : d ∉ G) :
    OwnB (w.setCell ⟨g, d / 8, none⟩ (.int .u8 ((Ls.cel (Ls.val G) (d / 8) + Ls.pw (d % 8) : Nat) : Int))) B (.slice (some ⟨g, 0, none⟩) ((n + 7) / 8) c) (Ls.bytesN n (Ls.val (G ++ [d]))) := by
  have hl := Ls.bytesN_length n (Ls.val G)
  have hb : (Ls.val G).testBit d = false := by rw [Ls.val_bit hok.nd, decide_eq_false hG]
  have hc := Ls.cel_add hb
  rw [← Ls.val_snoc] at hc
  refine ownB_set h (by rw [hl, Ls.bytesN_length]) (by rw [hl]; omega) (fun j h1 h2 => ?_) ?_
  · rw [hl] at h2
    have e : ∀ V, (Ls.bytesN n V)[j]'(by rw [Ls.bytesN_length]; omega) = UInt8.ofNat (Ls.cel V j) := fun V => by simp [Ls.bytesN]
    rw [e, e, hc j]
    by_cases hj : j = d / 8
    · subst hj; simp [Ls.pw]
    · simp [hj]
  · have := hc (d / 8)
    rw [if_pos rfl] at this
    have h9 := Ls.cel_lt (Ls.val (G ++ [d])) (d / 8)
    rw [this] at h9
    exact h9
theorem or_bit : ∀ c : Fin 256, ∀ k : Fin 8, c.val.testBit k.val = false → bits .or .u8 ((c.val : Nat) : Int) ((Ls.pw k.val : Nat) : Int) = ((c.val + Ls.pw k.val : Nat) : Int) := by decide +kernel
theorem shl_min : ∀ r : Nat, r < 8 → (2 ^ min r 8 % 256 : Int) = ((Ls.pw r : Nat) : Int) := by
  intro r hr
  have : r = 0 ∨ r = 1 ∨ r = 2 ∨ r = 3 ∨ r = 4 ∨ r = 5 ∨ r = 6 ∨ r = 7 := by omega
  rcases this with rfl | rfl | rfl | rfl | rfl | rfl | rfl | rfl <;> decide
theorem small_i64 (k : Nat) (h : k ≤ 131072) : IntKind.i64.wrap (k : Int) = (k : Int) := IntWalk.i64_in _ (by omega)
theorem small_64 (k : Nat) (h : k ≤ 131072) : wrap64 (k : Int) = (k : Int) := IntWalk.wrap64_in _ (by omega)
theorem left_wrap (n m : Nat) (h : n ≤ 1048576) (h2 : m ≤ n) : wrap64 ((n : Int) - (m : Int) - 1) = (n : Int) - (m : Int) - 1 := IntWalk.wrap64_in _ (by omega)
theorem or_fact (b r y : Nat) (hb : b < 256) (hr : r < 8) (h : b.testBit r = false) (hy : y = b + Ls.pw r) : ∀ _ : True, bits .or .u8 (b : Int) (2 ^ min r 8 % 256) = (y : Int) := fun _ => by
  rw [shl_min r hr, hy]
  exact or_bit ⟨b, hb⟩ ⟨r, hr⟩ h
end Go.Proofs.Ytoppgecajibelaa
