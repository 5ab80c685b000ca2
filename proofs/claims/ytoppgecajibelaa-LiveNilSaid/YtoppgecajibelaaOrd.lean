/-
  The order of bytes: those of numbers stand as the numbers, those of texts as the texts, whatever stands behind them.
-/
import Derived.Test.YtoppgecajibelaaRef
namespace Go.Proofs.Ytoppgecajibelaa.Od

/-- How two rows of bytes stand. -/
def cp : List UInt8 → List UInt8 → Int
  | [], [] => 0
  | [], _ :: _ => -1
  | _ :: _, [] => 1
  | a :: x, b :: y => if a.toNat < b.toNat then -1 else if b.toNat < a.toNat then 1 else cp x y

/-- Two beginnings decide, whatever stands behind them. -/
def Dec (x y : List UInt8) (c : Int) : Prop := ∀ r q, cp (x ++ r) (y ++ q) = c
theorem Dec.cons {x y : List UInt8} {c : Int} (h : Dec x y c) (a : UInt8) : Dec (a :: x) (a :: y) c := fun r q => by
  have := h r q
  simp only [List.cons_append, cp]
  rw [if_neg (by omega), if_neg (by omega)]
  exact this
theorem lt_wid (m : Nat) (h : m < 18446744073709551616) : m < 256 ^ Pl.wid m := by
  unfold Pl.wid
  repeat' split
  all_goals (simp only [Nat.reducePow]; omega)

theorem mag_nn {a : Int} (h : ¬ a < 0) : Pl.mag a = a.toNat ∧ Pl.sgn a = 0 := by
  unfold Pl.mag Pl.sgn
  rw [if_neg h, if_neg h]
  exact ⟨rfl, rfl⟩
theorem mag_neg {a : Int} (h : a < 0) : Pl.mag a = (-a - 1).toNat ∧ Pl.sgn a = 255 := by
  unfold Pl.mag Pl.sgn
  rw [if_pos h, if_pos h]
  exact ⟨rfl, rfl⟩

/-- The head of a number's bytes, and the others. -/
theorem numB_near {a : Int} (h : Pl.mag a < 112) : Pl.numB a = [UInt8.ofNat ((128 + Pl.mag a) ^^^ Pl.sgn a)] := by
  unfold Pl.numB
  rw [if_pos h]
theorem numB_long {a : Int} (h : ¬ Pl.mag a < 112) : Pl.numB a = UInt8.ofNat ((239 + Pl.wid (Pl.mag a - 112)) ^^^ Pl.sgn a) :: Pl.be (Pl.sgn a) (Pl.wid (Pl.mag a - 112)) (Pl.mag a - 112) := by
  unfold Pl.numB
  rw [if_neg h]
theorem hd0 (x : Nat) (h : x < 256) : (UInt8.ofNat (x ^^^ 0)).toNat = x := by
  rw [Nat.xor_zero, UInt8.toNat_ofNat']; omega
theorem hd255 (x : Nat) (h : x < 256) : (UInt8.ofNat (x ^^^ 255)).toNat = 255 - x := by
  have := not_byte ⟨x, h⟩
  simp only at this
  rw [this, UInt8.toNat_ofNat']; omega

end Go.Proofs.Ytoppgecajibelaa.Od
