/-
  The plain mathematics of numbers and texts as bytes: widths, big-endian bytes, and what is read back; no program is named here.
-/
import Derived.Lib.BitFns
import Derived.Laws.BitsAllLaws
namespace Go.Proofs.Ytoppgecajibelaa.Pl

/-- How many bytes a number needs, at least one. -/
def wid (m : Nat) : Nat :=
  if m < 256 then 1 else if m < 65536 then 2 else if m < 16777216 then 3 else if m < 4294967296 then 4
  else if m < 1099511627776 then 5 else if m < 281474976710656 then 6 else if m < 72057594037927936 then 7 else 8

theorem wid_le (m : Nat) : 1 ≤ wid m ∧ wid m ≤ 8 := by
  unfold wid
  repeat' split
  all_goals omega

theorem bitLenAux_zero (f : Nat) : Go.Lib.bitLenAux f 0 = 0 := by
  cases f with
  | zero => rfl
  | succ f => simp [Go.Lib.bitLenAux]
theorem bitLenAux_iff : ∀ (f x k : Nat), k < f → (Go.Lib.bitLenAux f x ≤ k ↔ x < 2 ^ k) := by
  intro f
  induction f with
  | zero => intro x k h; omega
  | succ f ih =>
    intro x k h
    unfold Go.Lib.bitLenAux
    split
    · rename_i hx
      subst hx
      exact ⟨fun _ => Nat.two_pow_pos k, fun _ => Nat.zero_le _⟩
    · rename_i hx
      cases k with
      | zero => simp; omega
      | succ k =>
        have := ih (x / 2) k (by omega)
        rw [Nat.pow_succ]
        omega
theorem bitLen_le (x : Nat) : Go.Lib.bitLen x ≤ 64 := by
  have : ∀ f x, Go.Lib.bitLenAux f x ≤ f := by
    intro f
    induction f with
    | zero => intro x; exact Nat.le_refl _
    | succ f ih =>
      intro x
      unfold Go.Lib.bitLenAux
      split
      · omega
      · have := ih (x / 2); omega
  exact this 64 x
/-- The width by the length in bits. -/
theorem wid_bitLen (m : Nat) : Nat.max 1 ((Go.Lib.bitLen m + 7) / 8) = wid m := by
  have h1 := bitLenAux_iff 64 m 8 (by omega)
  have h2 := bitLenAux_iff 64 m 16 (by omega)
  have h3 := bitLenAux_iff 64 m 24 (by omega)
  have h4 := bitLenAux_iff 64 m 32 (by omega)
  have h5 := bitLenAux_iff 64 m 40 (by omega)
  have h6 := bitLenAux_iff 64 m 48 (by omega)
  have h7 := bitLenAux_iff 64 m 56 (by omega)
  have h9 := bitLen_le m
  change (Go.Lib.bitLen m ≤ _ ↔ _) at h1 h2 h3 h4 h5 h6 h7
  simp only [Nat.reducePow] at h1 h2 h3 h4 h5 h6 h7
  generalize Go.Lib.bitLen m = b at *
  unfold wid
  simp only [Nat.max_def]
  repeat' split
  all_goals omega

/-- The value of bytes, the highest first, each turned by f. -/
def val (f : Nat) : List UInt8 → Nat → Nat
  | [], m => m
  | b :: t, m => val f t (256 * m + (b.toNat ^^^ f))

theorem val_append (f : Nat) (l r : List UInt8) (m : Nat) : val f (l ++ r) m = val f r (val f l m) := by
  induction l generalizing m with
  | nil => rfl
  | cons b t ih => exact ih _
theorem val_snoc (f : Nat) (l : List UInt8) (b : UInt8) (m : Nat) : val f (l ++ [b]) m = 256 * val f l m + (b.toNat ^^^ f) := by
  rw [val_append]; rfl
theorem xor_lt (b : UInt8) (f : Nat) (hf : f < 256) : b.toNat ^^^ f < 256 := by
  have h := b.toNat_lt
  exact Nat.xor_lt_two_pow (n := 8) (by simpa using h) (by simpa using hf)
theorem val_lt (f : Nat) (hf : f < 256) (l : List UInt8) : ∀ m k, m < 256 ^ k → val f l m < 256 ^ (k + l.length) := by
  induction l with
  | nil => intro m k h; simpa [val] using h
  | cons b t ih =>
    intro m k h
    have hb := xor_lt b f hf
    have : 256 * m + (b.toNat ^^^ f) < 256 ^ (k + 1) := by rw [Nat.pow_succ]; omega
    have := ih _ _ this
    simpa [val, Nat.add_assoc, Nat.add_comm, Nat.add_left_comm] using this

/-- What is read as a number at the head of bytes: the number, how many bytes, the error. -/
def rdWide (c : UInt8) (t : List UInt8) (f : Nat) : Int × Int × Int :=
  if 247 < c.toNat ^^^ f then (0, 0, 3)
  else if t.length < (c.toNat ^^^ f) - 239 then (0, 0, 2)
  else if wid (val f (t.take ((c.toNat ^^^ f) - 239)) 0) < (c.toNat ^^^ f) - 239 ∨ 9223372036854775695 < val f (t.take ((c.toNat ^^^ f) - 239)) 0 then (0, 0, 3)
  else ((val f (t.take ((c.toNat ^^^ f) - 239)) 0 : Int) + 112, ((c.toNat ^^^ f : Nat) : Int) - 238, 0)

/-- From the number without its sign to the number. -/
def back (f : Nat) (x : Int × Int × Int) : Int × Int × Int := if x.2.2 = 0 ∧ f ≠ 0 then (-x.1 - 1, x.2) else x

def flipOf (c : UInt8) : Nat := if c.toNat < 128 then 255 else 0

def rdNum : List UInt8 → Int × Int × Int
  | [] => (0, 0, 2)
  | c :: t =>
    if c.toNat ^^^ flipOf c < 240 then back (flipOf c) (((c.toNat ^^^ flipOf c : Nat) : Int) - 128, 1, 0)
    else back (flipOf c) (rdWide c t (flipOf c))

def rdCount (l : List UInt8) : Int × Int × Int := if (rdNum l).1 < 0 then (0, 0, 3) else rdNum l

/-- What is read as a text: what has been read, how many bytes of it; the text, how many bytes, the error. -/
def rdText : List UInt8 → List UInt8 → Nat → List UInt8 × Int × Int
  | [], _, _ => ([], 0, 2)
  | 0 :: [], _, _ => ([], 0, 2)
  | 0 :: d :: t, out, k => if d = 255 then rdText t (out ++ [0]) (k + 2) else if d = 1 then (out, (k : Int) + 2, 0) else ([], 0, 3)
  | c :: t, out, k => rdText t (out ++ [c]) (k + 1)

def rdBlock (l : List UInt8) : List UInt8 × Int × Int :=
  if (rdCount l).2.2 ≠ 0 then ([], 0, (rdCount l).2.2)
  else if (l.length : Int) - (rdCount l).2.1 < (rdCount l).1 then ([], 0, 2)
  else ((l.drop (rdCount l).2.1.toNat).take (rdCount l).1.toNat, (rdCount l).2.1 + (rdCount l).1, 0)

/-- The bytes of a number of k bytes, the highest first, each turned by f. -/
def be (f : Nat) : Nat → Nat → List UInt8
  | 0, _ => []
  | k + 1, m => UInt8.ofNat ((m / 256 ^ k % 256) ^^^ f) :: be f k m

def mag (n : Int) : Nat := if n < 0 then (-n - 1).toNat else n.toNat
def sgn (n : Int) : Nat := if n < 0 then 255 else 0
/-- The bytes of a number. -/
def numB (n : Int) : List UInt8 :=
  if mag n < 112 then [UInt8.ofNat ((128 + mag n) ^^^ sgn n)]
  else UInt8.ofNat ((239 + wid (mag n - 112)) ^^^ sgn n) :: be (sgn n) (wid (mag n - 112)) (mag n - 112)
def numsB (l : List Int) : List UInt8 := l.flatMap numB
end Go.Proofs.Ytoppgecajibelaa.Pl
