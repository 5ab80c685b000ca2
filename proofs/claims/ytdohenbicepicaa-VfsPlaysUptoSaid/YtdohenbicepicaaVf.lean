/-
  The plain mathematics of a disk that fails, stops and loses: files by number, names by name; no program is named here.
-/
import Derived.Lib.BitFns
import Derived.Laws.BitsAllLaws
import Derived.Lib.Strings
namespace Go.Proofs.Ytdohenbicepicaa.Vf

/-- A file: its number, its bytes, how many are sure. -/
structure Fl where
  n : Nat
  data : ByteArray
  sure : Nat
/-- A name and a file's number. -/
structure Lk where
  name : ByteArray
  n : Nat
structure Dk where
  files : List Fl
  names : List Lk
  kept : List Lk
  last : Nat
  steps : Nat
  armed : Int
  fault : Int
  down : Bool
def new : Dk := ⟨[], [], [], 0, 0, -1, 0, false⟩

/-- Whether two texts are one; whether one stands ahead of the other. -/
def eqB (a b : ByteArray) : Bool := a.toList == b.toList
def ltB (a b : ByteArray) : Bool := Op.bytesLess a.toList b.toList
theorem eqB_iff {a b : ByteArray} : eqB a b = true ↔ a = b := by
  unfold eqB
  rw [ByteArray.toList_eq, ByteArray.toList_eq, beq_iff_eq]
  constructor
  · intro h
    cases a
    cases b
    simpa using h
  · intro h; rw [h]

/-- What a name's letters may be. -/
def okC (c : UInt8) : Bool := decide (97 ≤ c.toNat ∧ c.toNat ≤ 122) || decide (48 ≤ c.toNat ∧ c.toNat ≤ 57) || decide (c.toNat = 95) || decide (c.toNat = 46)
def okN (s : ByteArray) : Bool := decide (1 ≤ s.size ∧ s.size ≤ 40) && s.data.toList.all okC

/-- A name's file; 0: there is none. -/
def find : List Lk → ByteArray → Nat
  | [], _ => 0
  | x :: t, s => if eqB x.name s then x.n else find t s
/-- Names, with another file for one; 0: without it. -/
def linkGo (s : ByteArray) (n : Nat) : Bool → List Lk → List Lk
  | d, [] => if d then [] else [⟨s, n⟩]
  | d, x :: t => if eqB x.name s then linkGo s n d t else if !d && ltB s x.name then ⟨s, n⟩ :: x :: linkGo s n true t else x :: linkGo s n d t
def link (l : List Lk) (s : ByteArray) (n : Nat) : List Lk := linkGo s n (n == 0) l
/-- A file's place; how many there are: it is not there. -/
def place : List Fl → Nat → Nat
  | [], _ => 0
  | f :: t, n => if f.n = n then 0 else place t n + 1

/-- The first refusals. -/
def first (d : Dk) (ok : Bool) : Int := if !ok then 1 else if d.down then 15 else 0
/-- A change, or the fault. -/
def done (d : Dk) : Int × Dk :=
  if d.armed = 0 then (d.fault, { d with armed := -1, down := decide (d.fault = 15) })
  else (0, { d with armed := if 0 < d.armed then d.armed - 1 else d.armed, steps := d.steps + 1 })

def arm (d : Dk) (n e : Int) : Int × Dk := if n < 0 ∨ (e ≠ 14 ∧ e ≠ 13 ∧ e ≠ 15) then (1, d) else (0, { d with armed := n, fault := e })
def calm (d : Dk) : Dk := { d with armed := -1 }
def create (d : Dk) (s : ByteArray) : Int × Dk :=
  if first d (okN s) ≠ 0 then (first d (okN s), d)
  else if (done d).1 ≠ 0 then done d
  else (0, { (done d).2 with last := d.last + 1, files := d.files ++ [⟨d.last + 1, ByteArray.empty, 0⟩], names := link d.names s (d.last + 1) })
/-- Bytes behind a file's, or a sync. -/
def chg (f : Fl) (data : ByteArray) (sync : Bool) : Fl := { f with data := f.data ++ data, sure := if sync then (f.data ++ data).size else f.sure }
def change (d : Dk) (s data : ByteArray) (sync : Bool) : Int × Dk :=
  if first d (okN s) ≠ 0 then (first d (okN s), d)
  else if find d.names s = 0 then (11, d)
  else if (done d).1 ≠ 0 then done d
  else (0, { (done d).2 with files := d.files.modify (place d.files (find d.names s)) (fun f => chg f data sync) })
def append (d : Dk) (s data : ByteArray) : Int × Dk := change d s data false
def sync (d : Dk) (s : ByteArray) : Int × Dk := change d s ByteArray.empty true
def rename (d : Dk) (a b : ByteArray) : Int × Dk :=
  if first d (okN a && okN b) ≠ 0 then (first d (okN a && okN b), d)
  else if find d.names a = 0 then (11, d)
  else if (done d).1 ≠ 0 then done d
  else (0, { (done d).2 with names := link (link d.names a 0) b (find d.names a) })
def remove (d : Dk) (s : ByteArray) : Int × Dk :=
  if first d (okN s) ≠ 0 then (first d (okN s), d)
  else if find d.names s = 0 then (11, d)
  else if (done d).1 ≠ 0 then done d
  else (0, { (done d).2 with names := link d.names s 0 })
def syncDir (d : Dk) : Int × Dk :=
  if first d true ≠ 0 then (first d true, d)
  else if (done d).1 ≠ 0 then done d
  else (0, { (done d).2 with kept := d.names })
def fileAt (l : List Fl) (n : Nat) : Fl := l.getD (place l n) ⟨0, ByteArray.empty, 0⟩
def read (d : Dk) (s : ByteArray) : ByteArray × Int :=
  if first d (okN s) ≠ 0 then (ByteArray.empty, first d (okN s))
  else if find d.names s = 0 then (ByteArray.empty, 11)
  else ((fileAt d.files (find d.names s)).data, 0)
def list (d : Dk) : List ByteArray := if d.down then [] else d.names.map (·.name)

/-- Numbers of 64 bits, mixed. -/
def m64 (x : Nat) : Nat := x % 18446744073709551616
def mix (loss n : Nat) : Nat :=
  let x := m64 (loss + m64 (n * 11400714819323198485))
  let y := m64 ((x ^^^ x / 1073741824) * 13787848793156543929)
  let z := m64 ((y ^^^ y / 134217728) * 10723151780598845931)
  z ^^^ z / 2147483648
def u64 (loss : Int) : Nat := (loss % 18446744073709551616).toNat
/-- All names, now or sure. -/
def allNames (kept : List Lk) : List Lk → List Lk → List Lk
  | all, [] => all
  | all, x :: t => allNames kept (if find kept x.name = 0 then link all x.name x.n else all) t
/-- Which names are there behind a loss; the numbers used. -/
def pick (kept names : List Lk) (loss : Nat) : Nat → List Lk → List Lk → List Lk × Nat
  | k, acc, [] => (acc, k)
  | k, acc, a :: t =>
    let x := find kept a.name
    let y := find names a.name
    let k' := if x ≠ y then k + 1 else k
    let x' := if x ≠ y ∧ mix loss k' % 2 = 1 then y else x
    pick kept names loss k' (if x' ≠ 0 then acc ++ [⟨a.name, x'⟩] else acc) t
/-- What of a file is left: with the next number. -/
def cut (f : Fl) (loss k : Nat) : Fl :=
  let data := if f.sure < f.data.size then f.data.extract 0 (f.sure + mix loss k % (f.data.size - f.sure + 1)) else f.data
  { f with data := data, sure := data.size }
def lose (files : List Fl) (loss : Nat) : Nat → List Fl → List Lk → List Fl
  | _, acc, [] => acc
  | k, acc, a :: t =>
    if place acc a.n < acc.length then lose files loss k acc t
    else
      let f := fileAt files a.n
      let k' := if f.sure < f.data.size then k + 1 else k
      lose files loss k' (acc ++ [cut f loss k']) t
def restart (d : Dk) (loss : Int) : Int × Dk :=
  let all := allNames d.kept d.kept d.names
  let p := pick d.kept d.names (u64 loss) 0 [] all
  (0, { d with files := lose d.files (u64 loss) p.2 [] p.1, names := p.1, kept := p.1, down := false, armed := -1 })
end Go.Proofs.Ytdohenbicepicaa.Vf
