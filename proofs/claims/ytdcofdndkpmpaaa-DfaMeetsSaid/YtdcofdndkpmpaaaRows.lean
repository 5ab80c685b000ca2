/-
  No cell of these rows narrows 'for every input' (looked for: loops, veiled, ifaces, maps, wideKeys, modest, calm, conditions, laid).
  DERIVED. THE GIVEN ROWS OF THIS SEAT. 5 by the template 'for every input the law returns true; each argument reads behind the call as it read before'; 0 by the template 'total and deterministic' (their statements: YtdcofdndkpmpaaaTotals.lean).
  GIVEN WITH THE SEED: the statements are not yours to turn. If you find one false, say at which input.
  Laid BY PROGRAM, IN A SANDBOX (cutbox-rows.mjs): the forced cells as the released guide's own fill.sh prints them over the translation ccd252d91982e2e1… (all of the seat's roots in one cut). By AI agents, Wed Nov 11 2026. No macro, syntax, notation, axiom, sorry.
-/
import Derived.Test.YtdcofdndkpmpaaaChecked
import GoSem.Claim
import GoSem.ClaimJoined
import GoSem.ClaimMapViews
import Derived.JoinedTies
import Derived.KernelRfl
namespace Go.Proofs.Ytdcofdndkpmpaaa
/- THE CELL 'sum', in the pinned program and in every row, IS THE sha256 OF THE DUMP (.gsa) THAT YtdcofdndkpmpaaaProg.lean LOADS. Nothing in Lean hashes anything: it is a label: what it is worth is what the hold of that sum in a sandbox is worth. -/
noncomputable def Try.pinned : Pinned := { name := "ytdcofdndkpmpaaa", sum := "ccd252d91982e2e118922b82760e58ab8130cc523128ae8fb1d4268e91865efc", checked := Try.checked }
namespace Rows
def none {H : Type} : Left H := { results := [], args := [] }

/-- 'glosslaw08.DfaRuns': WHATEVER THE INPUT: true; the input reads as it did. -/
def dfaRunsSpec : ChangeSpec := { name := "dfaRuns", fn := fun _ => fun
  | [d1, d2, d3, d4] => { results := [.lit (.bool true)], args := [d1, d2, d3, d4] }
  | _ => none }
def dfaRunsRow : OpenClaim := { program := "ytdcofdndkpmpaaa", sum := "ccd252d91982e2e118922b82760e58ab8130cc523128ae8fb1d4268e91865efc", func := "gloss/glosslaw08.DfaRuns", spec := "dfaRuns", unfollowed := true, recurses := true, apart := false }
def DfaRunsSaid : Prop := dfaRunsRow.holds Try.pinned (OpenSpec.ofChange dfaRunsSpec)

/-- ITS FALSE NEIGHBOUR: 'it returns false'. Refute it at one input. -/
def dfaRunsWrong : ChangeSpec := { name := "dfaRuns", fn := fun _ => fun
  | [d1, d2, d3, d4] => { results := [.lit (.bool false)], args := [d1, d2, d3, d4] }
  | _ => none }
def DfaRunsWrongFalsely : Prop := dfaRunsRow.holds Try.pinned (OpenSpec.ofChange dfaRunsWrong)

/-- 'glosslaw08.DfaTight': WHATEVER THE INPUT: true; the input reads as it did. -/
def dfaTightSpec : ChangeSpec := { name := "dfaTight", fn := fun _ => fun
  | [d1, d2] => { results := [.lit (.bool true)], args := [d1, d2] }
  | _ => none }
def dfaTightRow : OpenClaim := { program := "ytdcofdndkpmpaaa", sum := "ccd252d91982e2e118922b82760e58ab8130cc523128ae8fb1d4268e91865efc", func := "gloss/glosslaw08.DfaTight", spec := "dfaTight", unfollowed := true, recurses := true, apart := false }
def DfaTightSaid : Prop := dfaTightRow.holds Try.pinned (OpenSpec.ofChange dfaTightSpec)

/-- ITS FALSE NEIGHBOUR: 'it returns false'. Refute it at one input. -/
def dfaTightWrong : ChangeSpec := { name := "dfaTight", fn := fun _ => fun
  | [d1, d2] => { results := [.lit (.bool false)], args := [d1, d2] }
  | _ => none }
def DfaTightWrongFalsely : Prop := dfaTightRow.holds Try.pinned (OpenSpec.ofChange dfaTightWrong)

/-- 'glosslaw08.DfaBoth': WHATEVER THE INPUT: true; the input reads as it did. -/
def dfaBothSpec : ChangeSpec := { name := "dfaBoth", fn := fun _ => fun
  | [d1, d2, d3] => { results := [.lit (.bool true)], args := [d1, d2, d3] }
  | _ => none }
def dfaBothRow : OpenClaim := { program := "ytdcofdndkpmpaaa", sum := "ccd252d91982e2e118922b82760e58ab8130cc523128ae8fb1d4268e91865efc", func := "gloss/glosslaw08.DfaBoth", spec := "dfaBoth", unfollowed := true, recurses := true, apart := false }
def DfaBothSaid : Prop := dfaBothRow.holds Try.pinned (OpenSpec.ofChange dfaBothSpec)

/-- ITS FALSE NEIGHBOUR: 'it returns false'. Refute it at one input. -/
def dfaBothWrong : ChangeSpec := { name := "dfaBoth", fn := fun _ => fun
  | [d1, d2, d3] => { results := [.lit (.bool false)], args := [d1, d2, d3] }
  | _ => none }
def DfaBothWrongFalsely : Prop := dfaBothRow.holds Try.pinned (OpenSpec.ofChange dfaBothWrong)

/-- 'glosslaw08.DfaTakes': WHATEVER THE INPUT: true; the input reads as it did. -/
def dfaTakesSpec : ChangeSpec := { name := "dfaTakes", fn := fun _ => fun
  | [d1, d2] => { results := [.lit (.bool true)], args := [d1, d2] }
  | _ => none }
def dfaTakesRow : OpenClaim := { program := "ytdcofdndkpmpaaa", sum := "ccd252d91982e2e118922b82760e58ab8130cc523128ae8fb1d4268e91865efc", func := "gloss/glosslaw08.DfaTakes", spec := "dfaTakes", unfollowed := true, recurses := true, apart := false }
def DfaTakesSaid : Prop := dfaTakesRow.holds Try.pinned (OpenSpec.ofChange dfaTakesSpec)

/-- ITS FALSE NEIGHBOUR: 'it returns false'. Refute it at one input. -/
def dfaTakesWrong : ChangeSpec := { name := "dfaTakes", fn := fun _ => fun
  | [d1, d2] => { results := [.lit (.bool false)], args := [d1, d2] }
  | _ => none }
def DfaTakesWrongFalsely : Prop := dfaTakesRow.holds Try.pinned (OpenSpec.ofChange dfaTakesWrong)

/-- 'glosslaw08.DfaMeets': WHATEVER THE INPUT: true; the input reads as it did. -/
def dfaMeetsSpec : ChangeSpec := { name := "dfaMeets", fn := fun _ => fun
  | [d1, d2, d3] => { results := [.lit (.bool true)], args := [d1, d2, d3] }
  | _ => none }
def dfaMeetsRow : OpenClaim := { program := "ytdcofdndkpmpaaa", sum := "ccd252d91982e2e118922b82760e58ab8130cc523128ae8fb1d4268e91865efc", func := "gloss/glosslaw08.DfaMeets", spec := "dfaMeets", unfollowed := true, recurses := true, apart := false }
def DfaMeetsSaid : Prop := dfaMeetsRow.holds Try.pinned (OpenSpec.ofChange dfaMeetsSpec)

/-- ITS FALSE NEIGHBOUR: 'it returns false'. Refute it at one input. -/
def dfaMeetsWrong : ChangeSpec := { name := "dfaMeets", fn := fun _ => fun
  | [d1, d2, d3] => { results := [.lit (.bool false)], args := [d1, d2, d3] }
  | _ => none }
def DfaMeetsWrongFalsely : Prop := dfaMeetsRow.holds Try.pinned (OpenSpec.ofChange dfaMeetsWrong)

/- THE SECOND FORM. 'bulk': how many values and letters a reading holds, each counted each time it is reached (what is shared counts as often as it is met; a slice's spare places count too). A statement '..UptoSaid' is the law's where the arguments, and the package variables that the reading takes, are together of bulk at most 1048576: NARROWER than '..Said'. Prove '..Said' where nothing that the law and all that it calls make is longer than what came in: it says more and counts as full. Else prove '..UptoSaid'. A law counts once. -/
mutual
def uptoBulk {H : Type} : DataW H → Nat
  | .lit (.string bytes) => bytes.length + 1
  | .lit _ => 1
  | .nil => 1
  | .ptr d => uptoBulk d + 1
  | .slice elems spare => uptoBulkAll elems + uptoBulkAll spare + 1
  | .agg parts => uptoBulkAll parts + 1
  | .iface _ d => uptoBulk d + 1
  | .map entries => uptoBulkEntries entries + 1
  | .held _ => 1
def uptoBulkAll {H : Type} : List (DataW H) → Nat
  | [] => 0
  | d :: r => uptoBulk d + uptoBulkAll r
def uptoBulkEntries {H : Type} : List (Lit × DataW H) → Nat
  | [] => 0
  | x :: r => uptoBulkEntry x + uptoBulkEntries r
def uptoBulkEntry {H : Type} : Lit × DataW H → Nat
  | (.string bytes, d) => bytes.length + uptoBulk d + 1
  | (_, d) => uptoBulk d + 1
 end
def uptoSmall : (H : Type) → List (DataW H) → Bool := fun _ ds => decide (uptoBulkAll ds ≤ 1048576)
def OpenSpec.upto (s : _root_.Go.ChangeSpec) : _root_.Go.OpenSpec := { _root_.Go.OpenSpec.ofChange s with cond := some uptoSmall }

/-- 'glosslaw08.DfaRuns', WHERE WHAT IT READS IS OF BULK AT MOST 1048576: true; the input reads as it did. -/
def dfaRunsUptoRow : OpenClaim := { program := "ytdcofdndkpmpaaa", sum := "ccd252d91982e2e118922b82760e58ab8130cc523128ae8fb1d4268e91865efc", func := "gloss/glosslaw08.DfaRuns", spec := "dfaRuns", unfollowed := true, recurses := true, apart := false, narrowed := true }
def DfaRunsUptoSaid : Prop := dfaRunsUptoRow.holds Try.pinned (OpenSpec.upto dfaRunsSpec)

/-- 'glosslaw08.DfaTight', WHERE WHAT IT READS IS OF BULK AT MOST 1048576: true; the input reads as it did. -/
def dfaTightUptoRow : OpenClaim := { program := "ytdcofdndkpmpaaa", sum := "ccd252d91982e2e118922b82760e58ab8130cc523128ae8fb1d4268e91865efc", func := "gloss/glosslaw08.DfaTight", spec := "dfaTight", unfollowed := true, recurses := true, apart := false, narrowed := true }
def DfaTightUptoSaid : Prop := dfaTightUptoRow.holds Try.pinned (OpenSpec.upto dfaTightSpec)

/-- 'glosslaw08.DfaBoth', WHERE WHAT IT READS IS OF BULK AT MOST 1048576: true; the input reads as it did. -/
def dfaBothUptoRow : OpenClaim := { program := "ytdcofdndkpmpaaa", sum := "ccd252d91982e2e118922b82760e58ab8130cc523128ae8fb1d4268e91865efc", func := "gloss/glosslaw08.DfaBoth", spec := "dfaBoth", unfollowed := true, recurses := true, apart := false, narrowed := true }
def DfaBothUptoSaid : Prop := dfaBothUptoRow.holds Try.pinned (OpenSpec.upto dfaBothSpec)

/-- 'glosslaw08.DfaTakes', WHERE WHAT IT READS IS OF BULK AT MOST 1048576: true; the input reads as it did. -/
def dfaTakesUptoRow : OpenClaim := { program := "ytdcofdndkpmpaaa", sum := "ccd252d91982e2e118922b82760e58ab8130cc523128ae8fb1d4268e91865efc", func := "gloss/glosslaw08.DfaTakes", spec := "dfaTakes", unfollowed := true, recurses := true, apart := false, narrowed := true }
def DfaTakesUptoSaid : Prop := dfaTakesUptoRow.holds Try.pinned (OpenSpec.upto dfaTakesSpec)

/-- 'glosslaw08.DfaMeets', WHERE WHAT IT READS IS OF BULK AT MOST 1048576: true; the input reads as it did. -/
def dfaMeetsUptoRow : OpenClaim := { program := "ytdcofdndkpmpaaa", sum := "ccd252d91982e2e118922b82760e58ab8130cc523128ae8fb1d4268e91865efc", func := "gloss/glosslaw08.DfaMeets", spec := "dfaMeets", unfollowed := true, recurses := true, apart := false, narrowed := true }
def DfaMeetsUptoSaid : Prop := dfaMeetsUptoRow.holds Try.pinned (OpenSpec.upto dfaMeetsSpec)

end Rows
end Go.Proofs.Ytdcofdndkpmpaaa
