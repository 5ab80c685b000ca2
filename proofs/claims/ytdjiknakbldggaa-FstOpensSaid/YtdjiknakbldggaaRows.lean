/-
  No cell of these rows narrows 'for every input' (looked for: loops, veiled, ifaces, maps, wideKeys, modest, calm, conditions, laid).
  DERIVED. THE GIVEN ROWS OF THIS SEAT. 5 by the template 'for every input the law returns true; each argument reads behind the call as it read before'; 0 by the template 'total and deterministic' (their statements: YtdjiknakbldggaaTotals.lean).
  GIVEN WITH THE SEED: the statements are not yours to turn. If you find one false, say at which input.
  Laid BY PROGRAM, IN A SANDBOX (cutbox-rows.mjs): the forced cells as the released guide's own fill.sh prints them over the translation ee44dc341eeb361e… (all of the seat's roots in one cut). By AI agents, Wed Nov 11 2026. No macro, syntax, notation, axiom, sorry.
-/
import Derived.Test.YtdjiknakbldggaaChecked
import GoSem.Claim
import GoSem.ClaimJoined
import GoSem.ClaimMapViews
import Derived.JoinedTies
import Derived.KernelRfl
namespace Go.Proofs.Ytdjiknakbldggaa
/- THE CELL 'sum', in the pinned program and in every row, IS THE sha256 OF THE DUMP (.gsa) THAT YtdjiknakbldggaaProg.lean LOADS. Nothing in Lean hashes anything: it is a label: what it is worth is what the hold of that sum in a sandbox is worth. -/
noncomputable def Try.pinned : Pinned := { name := "ytdjiknakbldggaa", sum := "ee44dc341eeb361eda6aa068b47db6184d17d5d249c2c4525d6c8ebbe1736f2c", checked := Try.checked }
namespace Rows
def none {H : Type} : Left H := { results := [], args := [] }

/-- 'glosslaw12.FstBuilds': WHATEVER THE INPUT: true; the input reads as it did. -/
def fstBuildsSpec : ChangeSpec := { name := "fstBuilds", fn := fun _ => fun
  | [d] => { results := [.lit (.bool true)], args := [d] }
  | _ => none }
def fstBuildsRow : OpenClaim := { program := "ytdjiknakbldggaa", sum := "ee44dc341eeb361eda6aa068b47db6184d17d5d249c2c4525d6c8ebbe1736f2c", func := "gloss/glosslaw12.FstBuilds", spec := "fstBuilds", inPlace := ["internal/abi.NoEscape", "internal/bytealg.MakeNoZero"], unfollowed := true, recurses := true, apart := false }
def FstBuildsSaid : Prop := fstBuildsRow.holds Try.pinned (OpenSpec.ofChange fstBuildsSpec)

/-- ITS FALSE NEIGHBOUR: 'it returns false'. Refute it at one input. -/
def fstBuildsWrong : ChangeSpec := { name := "fstBuilds", fn := fun _ => fun
  | [d] => { results := [.lit (.bool false)], args := [d] }
  | _ => none }
def FstBuildsWrongFalsely : Prop := fstBuildsRow.holds Try.pinned (OpenSpec.ofChange fstBuildsWrong)

/-- 'glosslaw12.FstOpens': WHATEVER THE INPUT: true; the input reads as it did. -/
def fstOpensSpec : ChangeSpec := { name := "fstOpens", fn := fun _ => fun
  | [d] => { results := [.lit (.bool true)], args := [d] }
  | _ => none }
def fstOpensRow : OpenClaim := { program := "ytdjiknakbldggaa", sum := "ee44dc341eeb361eda6aa068b47db6184d17d5d249c2c4525d6c8ebbe1736f2c", func := "gloss/glosslaw12.FstOpens", spec := "fstOpens", inPlace := ["internal/abi.NoEscape", "internal/bytealg.MakeNoZero"], unfollowed := true, recurses := true, apart := false }
def FstOpensSaid : Prop := fstOpensRow.holds Try.pinned (OpenSpec.ofChange fstOpensSpec)

/-- ITS FALSE NEIGHBOUR: 'it returns false'. Refute it at one input. -/
def fstOpensWrong : ChangeSpec := { name := "fstOpens", fn := fun _ => fun
  | [d] => { results := [.lit (.bool false)], args := [d] }
  | _ => none }
def FstOpensWrongFalsely : Prop := fstOpensRow.holds Try.pinned (OpenSpec.ofChange fstOpensWrong)

/-- 'glosslaw12.FstGets': WHATEVER THE INPUT: true; the input reads as it did. -/
def fstGetsSpec : ChangeSpec := { name := "fstGets", fn := fun _ => fun
  | [d1, d2] => { results := [.lit (.bool true)], args := [d1, d2] }
  | _ => none }
def fstGetsRow : OpenClaim := { program := "ytdjiknakbldggaa", sum := "ee44dc341eeb361eda6aa068b47db6184d17d5d249c2c4525d6c8ebbe1736f2c", func := "gloss/glosslaw12.FstGets", spec := "fstGets", inPlace := ["internal/abi.NoEscape", "internal/bytealg.MakeNoZero"], unfollowed := true, recurses := true, apart := false }
def FstGetsSaid : Prop := fstGetsRow.holds Try.pinned (OpenSpec.ofChange fstGetsSpec)

/-- ITS FALSE NEIGHBOUR: 'it returns false'. Refute it at one input. -/
def fstGetsWrong : ChangeSpec := { name := "fstGets", fn := fun _ => fun
  | [d1, d2] => { results := [.lit (.bool false)], args := [d1, d2] }
  | _ => none }
def FstGetsWrongFalsely : Prop := fstGetsRow.holds Try.pinned (OpenSpec.ofChange fstGetsWrong)

/-- 'glosslaw12.FstLeast': WHATEVER THE INPUT: true; the input reads as it did. -/
def fstLeastSpec : ChangeSpec := { name := "fstLeast", fn := fun _ => fun
  | [d] => { results := [.lit (.bool true)], args := [d] }
  | _ => none }
def fstLeastRow : OpenClaim := { program := "ytdjiknakbldggaa", sum := "ee44dc341eeb361eda6aa068b47db6184d17d5d249c2c4525d6c8ebbe1736f2c", func := "gloss/glosslaw12.FstLeast", spec := "fstLeast", inPlace := ["internal/abi.NoEscape", "internal/bytealg.MakeNoZero"], unfollowed := true, recurses := true, apart := false }
def FstLeastSaid : Prop := fstLeastRow.holds Try.pinned (OpenSpec.ofChange fstLeastSpec)

/-- ITS FALSE NEIGHBOUR: 'it returns false'. Refute it at one input. -/
def fstLeastWrong : ChangeSpec := { name := "fstLeast", fn := fun _ => fun
  | [d] => { results := [.lit (.bool false)], args := [d] }
  | _ => none }
def FstLeastWrongFalsely : Prop := fstLeastRow.holds Try.pinned (OpenSpec.ofChange fstLeastWrong)

/-- 'glosslaw12.FstNil': WHATEVER THE INPUT: true; the input reads as it did. -/
def fstNilSpec : ChangeSpec := { name := "fstNil", fn := fun _ => fun
  | [d1, d2] => { results := [.lit (.bool true)], args := [d1, d2] }
  | _ => none }
def fstNilRow : OpenClaim := { program := "ytdjiknakbldggaa", sum := "ee44dc341eeb361eda6aa068b47db6184d17d5d249c2c4525d6c8ebbe1736f2c", func := "gloss/glosslaw12.FstNil", spec := "fstNil", inPlace := ["internal/abi.NoEscape", "internal/bytealg.MakeNoZero"], unfollowed := true, recurses := true, apart := false }
def FstNilSaid : Prop := fstNilRow.holds Try.pinned (OpenSpec.ofChange fstNilSpec)

/-- ITS FALSE NEIGHBOUR: 'it returns false'. Refute it at one input. -/
def fstNilWrong : ChangeSpec := { name := "fstNil", fn := fun _ => fun
  | [d1, d2] => { results := [.lit (.bool false)], args := [d1, d2] }
  | _ => none }
def FstNilWrongFalsely : Prop := fstNilRow.holds Try.pinned (OpenSpec.ofChange fstNilWrong)

/- THE SECOND FORM. 'bulk': how many values and letters a reading holds, each counted each time it is reached (what is shared counts as often as it is met; a slice's spare places count too). A statement '..UptoSaid' is the law's where the arguments, and the package variables that the reading takes, are together of bulk at most 1048576: NARROWER than '..Said'. Prove '..Said' where nothing that the law and all that it calls make is longer than what came in: it says more and counts as full. Else prove '..UptoSaid'. A law counts once. -/
mutual
def uptoBulk {H : Type} : DataW H → Nat
  | .lit (.string bytes) => bytes.length + 1
  | .lit _ => 1
  | .nil => 1
  | .ptr d => uptoBulk d + 1
  | .slice elems spare => uptoBulkAll elems + uptoBulkAll spare + 1
  | .agg parts => uptoBulkAll parts + 1
  | .iface _ d => uptoBulk d + 1
  | .map entries => uptoBulkEntries entries + 1
  | .held _ => 1
def uptoBulkAll {H : Type} : List (DataW H) → Nat
  | [] => 0
  | d :: r => uptoBulk d + uptoBulkAll r
def uptoBulkEntries {H : Type} : List (Lit × DataW H) → Nat
  | [] => 0
  | x :: r => uptoBulkEntry x + uptoBulkEntries r
def uptoBulkEntry {H : Type} : Lit × DataW H → Nat
  | (.string bytes, d) => bytes.length + uptoBulk d + 1
  | (_, d) => uptoBulk d + 1
 end
def uptoSmall : (H : Type) → List (DataW H) → Bool := fun _ ds => decide (uptoBulkAll ds ≤ 1048576)
def OpenSpec.upto (s : _root_.Go.ChangeSpec) : _root_.Go.OpenSpec := { _root_.Go.OpenSpec.ofChange s with cond := some uptoSmall }

/-- 'glosslaw12.FstBuilds', WHERE WHAT IT READS IS OF BULK AT MOST 1048576: true; the input reads as it did. -/
def fstBuildsUptoRow : OpenClaim := { program := "ytdjiknakbldggaa", sum := "ee44dc341eeb361eda6aa068b47db6184d17d5d249c2c4525d6c8ebbe1736f2c", func := "gloss/glosslaw12.FstBuilds", spec := "fstBuilds", inPlace := ["internal/abi.NoEscape", "internal/bytealg.MakeNoZero"], unfollowed := true, recurses := true, apart := false, narrowed := true }
def FstBuildsUptoSaid : Prop := fstBuildsUptoRow.holds Try.pinned (OpenSpec.upto fstBuildsSpec)

/-- 'glosslaw12.FstOpens', WHERE WHAT IT READS IS OF BULK AT MOST 1048576: true; the input reads as it did. -/
def fstOpensUptoRow : OpenClaim := { program := "ytdjiknakbldggaa", sum := "ee44dc341eeb361eda6aa068b47db6184d17d5d249c2c4525d6c8ebbe1736f2c", func := "gloss/glosslaw12.FstOpens", spec := "fstOpens", inPlace := ["internal/abi.NoEscape", "internal/bytealg.MakeNoZero"], unfollowed := true, recurses := true, apart := false, narrowed := true }
def FstOpensUptoSaid : Prop := fstOpensUptoRow.holds Try.pinned (OpenSpec.upto fstOpensSpec)

/-- 'glosslaw12.FstGets', WHERE WHAT IT READS IS OF BULK AT MOST 1048576: true; the input reads as it did. -/
def fstGetsUptoRow : OpenClaim := { program := "ytdjiknakbldggaa", sum := "ee44dc341eeb361eda6aa068b47db6184d17d5d249c2c4525d6c8ebbe1736f2c", func := "gloss/glosslaw12.FstGets", spec := "fstGets", inPlace := ["internal/abi.NoEscape", "internal/bytealg.MakeNoZero"], unfollowed := true, recurses := true, apart := false, narrowed := true }
def FstGetsUptoSaid : Prop := fstGetsUptoRow.holds Try.pinned (OpenSpec.upto fstGetsSpec)

/-- 'glosslaw12.FstLeast', WHERE WHAT IT READS IS OF BULK AT MOST 1048576: true; the input reads as it did. -/
def fstLeastUptoRow : OpenClaim := { program := "ytdjiknakbldggaa", sum := "ee44dc341eeb361eda6aa068b47db6184d17d5d249c2c4525d6c8ebbe1736f2c", func := "gloss/glosslaw12.FstLeast", spec := "fstLeast", inPlace := ["internal/abi.NoEscape", "internal/bytealg.MakeNoZero"], unfollowed := true, recurses := true, apart := false, narrowed := true }
def FstLeastUptoSaid : Prop := fstLeastUptoRow.holds Try.pinned (OpenSpec.upto fstLeastSpec)

/-- 'glosslaw12.FstNil', WHERE WHAT IT READS IS OF BULK AT MOST 1048576: true; the input reads as it did. -/
def fstNilUptoRow : OpenClaim := { program := "ytdjiknakbldggaa", sum := "ee44dc341eeb361eda6aa068b47db6184d17d5d249c2c4525d6c8ebbe1736f2c", func := "gloss/glosslaw12.FstNil", spec := "fstNil", inPlace := ["internal/abi.NoEscape", "internal/bytealg.MakeNoZero"], unfollowed := true, recurses := true, apart := false, narrowed := true }
def FstNilUptoSaid : Prop := fstNilUptoRow.holds Try.pinned (OpenSpec.upto fstNilSpec)

end Rows
end Go.Proofs.Ytdjiknakbldggaa
