/-
  NARROWER THAN 'FOR EVERY INPUT', by the rows' own cells (each row's printed sentence says how): WildLetters: laid · WildPrefixes: laid · WildSame: laid.
  DERIVED. THE GIVEN ROWS OF THIS SEAT. 3 by the template 'for every input the law returns true; each argument reads behind the call as it read before'; 0 by the template 'total and deterministic' (their statements: YtmhchajdeneabaaGreatDoorTotals.lean).
  GIVEN WITH THE SEED: the statements are not yours to turn. If you find one false, say at which input.
  Laid BY PROGRAM, IN A SANDBOX (cutbox-rows.mjs): the forced cells as the released guide's own fill.sh prints them over the translation 15abe027aba2bf77… (all of the seat's roots in one cut). By AI agents, Wed Nov 11 2026. No macro, syntax, notation, axiom, sorry.
-/
import Derived.Test.YtmhchajdeneabaaGreatDoorChecked
import GoSem.PinnedTables
import GoSem.Claim
import GoSem.ClaimJoined
import GoSem.ClaimMapViews
import Derived.JoinedTies
import Derived.KernelRfl
namespace Go.Proofs.YtmhchajdeneabaaGreatDoor
/- THE CELL 'sum', in the pinned program and in every row, IS THE sha256 OF THE DUMP (.gsa) THAT YtmhchajdeneabaaGreatDoorProg.lean LOADS. Nothing in Lean hashes anything: it is a label: what it is worth is what the hold of that sum in a sandbox is worth. -/
noncomputable def Tryz.pinned : Pinned := { name := "ytmhchajdeneabaagreatdoor", sum := "15abe027aba2bf77a0229cfe22fb30b56d01e55e9163b271960c572976a843e2", checked := Tryz.checked }
namespace Rows
def none {H : Type} : Left H := { results := [], args := [] }

/- WHAT THE LISTED PACKAGE-LEVEL VARIABLES READ AS WHEN THE CALL BEGINS. Each datum BY PROGRAM (the guide's laid-datum.mjs) off the statement by which the dump's own 'gosem.cut.vars' lays the variable. In a bare row this is a premise. The card (YtmhchajdeneabaaGreatDoorCards.lean) ties it to the program's text. -/
def laid_unicode_utf8_acceptRanges {H : Type} : DataW H := .agg [.agg [.lit (.int .u8 128), .lit (.int .u8 191)], .agg [.lit (.int .u8 160), .lit (.int .u8 191)], .agg [.lit (.int .u8 128), .lit (.int .u8 159)], .agg [.lit (.int .u8 144), .lit (.int .u8 191)], .agg [.lit (.int .u8 128), .lit (.int .u8 143)], .agg [.lit (.int .u8 0), .lit (.int .u8 0)], .agg [.lit (.int .u8 0), .lit (.int .u8 0)], .agg [.lit (.int .u8 0), .lit (.int .u8 0)], .agg [.lit (.int .u8 0), .lit (.int .u8 0)], .agg [.lit (.int .u8 0), .lit (.int .u8 0)], .agg [.lit (.int .u8 0), .lit (.int .u8 0)], .agg [.lit (.int .u8 0), .lit (.int .u8 0)], .agg [.lit (.int .u8 0), .lit (.int .u8 0)], .agg [.lit (.int .u8 0), .lit (.int .u8 0)], .agg [.lit (.int .u8 0), .lit (.int .u8 0)], .agg [.lit (.int .u8 0), .lit (.int .u8 0)]]
/-- One of Go's own tables, pinned by name: the form's constant. -/
def laid_unicode_utf8_first : DataW Unit := Go.Pinned.utf8First

/-- 'glosslaw10.WildLetters': WHATEVER THE INPUT: true; the input reads as it did. -/
def wildLettersSpec : ChangeSpec := { name := "wildLetters", fn := fun _ => fun
  | [d1, d2] => { results := [.lit (.bool true)], args := [d1, d2] }
  | _ => none }
def wildLettersRow : OpenClaim := { program := "ytmhchajdeneabaagreatdoor", sum := "15abe027aba2bf77a0229cfe22fb30b56d01e55e9163b271960c572976a843e2", func := "gloss/glosslaw10.WildLetters", spec := "wildLetters", inPlace := ["internal/bytealg.IndexByteString"], unfollowed := true, recurses := true, named := ["unicode/utf8.first", "unicode/utf8.acceptRanges"], apart := false, laid := [("unicode/utf8.acceptRanges", laid_unicode_utf8_acceptRanges), ("unicode/utf8.first", laid_unicode_utf8_first)] }
def WildLettersSaid : Prop := wildLettersRow.holds Tryz.pinned (OpenSpec.ofChange wildLettersSpec)

/-- ITS FALSE NEIGHBOUR: 'it returns false'. Refute it at one input. -/
def wildLettersWrong : ChangeSpec := { name := "wildLetters", fn := fun _ => fun
  | [d1, d2] => { results := [.lit (.bool false)], args := [d1, d2] }
  | _ => none }
def WildLettersWrongFalsely : Prop := wildLettersRow.holds Tryz.pinned (OpenSpec.ofChange wildLettersWrong)

/-- 'glosslaw10.WildPrefixes': WHATEVER THE INPUT: true; the input reads as it did. -/
def wildPrefixesSpec : ChangeSpec := { name := "wildPrefixes", fn := fun _ => fun
  | [d1, d2] => { results := [.lit (.bool true)], args := [d1, d2] }
  | _ => none }
def wildPrefixesRow : OpenClaim := { program := "ytmhchajdeneabaagreatdoor", sum := "15abe027aba2bf77a0229cfe22fb30b56d01e55e9163b271960c572976a843e2", func := "gloss/glosslaw10.WildPrefixes", spec := "wildPrefixes", inPlace := ["internal/bytealg.IndexByteString"], unfollowed := true, recurses := true, named := ["unicode/utf8.first", "unicode/utf8.acceptRanges"], apart := false, laid := [("unicode/utf8.acceptRanges", laid_unicode_utf8_acceptRanges), ("unicode/utf8.first", laid_unicode_utf8_first)] }
def WildPrefixesSaid : Prop := wildPrefixesRow.holds Tryz.pinned (OpenSpec.ofChange wildPrefixesSpec)

/-- ITS FALSE NEIGHBOUR: 'it returns false'. Refute it at one input. -/
def wildPrefixesWrong : ChangeSpec := { name := "wildPrefixes", fn := fun _ => fun
  | [d1, d2] => { results := [.lit (.bool false)], args := [d1, d2] }
  | _ => none }
def WildPrefixesWrongFalsely : Prop := wildPrefixesRow.holds Tryz.pinned (OpenSpec.ofChange wildPrefixesWrong)

/-- 'glosslaw10.WildSame': WHATEVER THE INPUT: true; the input reads as it did. -/
def wildSameSpec : ChangeSpec := { name := "wildSame", fn := fun _ => fun
  | [d1, d2] => { results := [.lit (.bool true)], args := [d1, d2] }
  | _ => none }
def wildSameRow : OpenClaim := { program := "ytmhchajdeneabaagreatdoor", sum := "15abe027aba2bf77a0229cfe22fb30b56d01e55e9163b271960c572976a843e2", func := "gloss/glosslaw10.WildSame", spec := "wildSame", inPlace := ["internal/bytealg.IndexByteString"], unfollowed := true, recurses := true, named := ["unicode/utf8.first", "unicode/utf8.acceptRanges"], apart := false, laid := [("unicode/utf8.acceptRanges", laid_unicode_utf8_acceptRanges), ("unicode/utf8.first", laid_unicode_utf8_first)] }
def WildSameSaid : Prop := wildSameRow.holds Tryz.pinned (OpenSpec.ofChange wildSameSpec)

/-- ITS FALSE NEIGHBOUR: 'it returns false'. Refute it at one input. -/
def wildSameWrong : ChangeSpec := { name := "wildSame", fn := fun _ => fun
  | [d1, d2] => { results := [.lit (.bool false)], args := [d1, d2] }
  | _ => none }
def WildSameWrongFalsely : Prop := wildSameRow.holds Tryz.pinned (OpenSpec.ofChange wildSameWrong)

/- THE SECOND FORM. 'bulk': how many values and letters a reading holds, each counted each time it is reached (what is shared counts as often as it is met; a slice's spare places count too). A statement '..UptoSaid' is the law's where the arguments, and the package variables that the reading takes, are together of bulk at most 1048576: NARROWER than '..Said'. Prove '..Said' where nothing that the law and all that it calls make is longer than what came in: it says more and counts as full. Else prove '..UptoSaid'. A law counts once. -/
mutual
def uptoBulk {H : Type} : DataW H → Nat
  | .lit (.string bytes) => bytes.length + 1
  | .lit _ => 1
  | .nil => 1
  | .ptr d => uptoBulk d + 1
  | .slice elems spare => uptoBulkAll elems + uptoBulkAll spare + 1
  | .agg parts => uptoBulkAll parts + 1
  | .iface _ d => uptoBulk d + 1
  | .map entries => uptoBulkEntries entries + 1
  | .held _ => 1
def uptoBulkAll {H : Type} : List (DataW H) → Nat
  | [] => 0
  | d :: r => uptoBulk d + uptoBulkAll r
def uptoBulkEntries {H : Type} : List (Lit × DataW H) → Nat
  | [] => 0
  | x :: r => uptoBulkEntry x + uptoBulkEntries r
def uptoBulkEntry {H : Type} : Lit × DataW H → Nat
  | (.string bytes, d) => bytes.length + uptoBulk d + 1
  | (_, d) => uptoBulk d + 1
 end
def uptoSmall : (H : Type) → List (DataW H) → Bool := fun _ ds => decide (uptoBulkAll ds ≤ 1048576)
def OpenSpec.upto (s : _root_.Go.ChangeSpec) : _root_.Go.OpenSpec := { _root_.Go.OpenSpec.ofChange s with cond := some uptoSmall }

/-- 'glosslaw10.WildLetters', WHERE WHAT IT READS IS OF BULK AT MOST 1048576: true; the input reads as it did. -/
def wildLettersUptoRow : OpenClaim := { program := "ytmhchajdeneabaagreatdoor", sum := "15abe027aba2bf77a0229cfe22fb30b56d01e55e9163b271960c572976a843e2", func := "gloss/glosslaw10.WildLetters", spec := "wildLetters", inPlace := ["internal/bytealg.IndexByteString"], unfollowed := true, recurses := true, named := ["unicode/utf8.first", "unicode/utf8.acceptRanges"], apart := false, laid := [("unicode/utf8.acceptRanges", laid_unicode_utf8_acceptRanges), ("unicode/utf8.first", laid_unicode_utf8_first)], narrowed := true }
def WildLettersUptoSaid : Prop := wildLettersUptoRow.holds Tryz.pinned (OpenSpec.upto wildLettersSpec)

/-- 'glosslaw10.WildPrefixes', WHERE WHAT IT READS IS OF BULK AT MOST 1048576: true; the input reads as it did. -/
def wildPrefixesUptoRow : OpenClaim := { program := "ytmhchajdeneabaagreatdoor", sum := "15abe027aba2bf77a0229cfe22fb30b56d01e55e9163b271960c572976a843e2", func := "gloss/glosslaw10.WildPrefixes", spec := "wildPrefixes", inPlace := ["internal/bytealg.IndexByteString"], unfollowed := true, recurses := true, named := ["unicode/utf8.first", "unicode/utf8.acceptRanges"], apart := false, laid := [("unicode/utf8.acceptRanges", laid_unicode_utf8_acceptRanges), ("unicode/utf8.first", laid_unicode_utf8_first)], narrowed := true }
def WildPrefixesUptoSaid : Prop := wildPrefixesUptoRow.holds Tryz.pinned (OpenSpec.upto wildPrefixesSpec)

/-- 'glosslaw10.WildSame', WHERE WHAT IT READS IS OF BULK AT MOST 1048576: true; the input reads as it did. -/
def wildSameUptoRow : OpenClaim := { program := "ytmhchajdeneabaagreatdoor", sum := "15abe027aba2bf77a0229cfe22fb30b56d01e55e9163b271960c572976a843e2", func := "gloss/glosslaw10.WildSame", spec := "wildSame", inPlace := ["internal/bytealg.IndexByteString"], unfollowed := true, recurses := true, named := ["unicode/utf8.first", "unicode/utf8.acceptRanges"], apart := false, laid := [("unicode/utf8.acceptRanges", laid_unicode_utf8_acceptRanges), ("unicode/utf8.first", laid_unicode_utf8_first)], narrowed := true }
def WildSameUptoSaid : Prop := wildSameUptoRow.holds Tryz.pinned (OpenSpec.upto wildSameSpec)

end Rows
end Go.Proofs.YtmhchajdeneabaaGreatDoor
