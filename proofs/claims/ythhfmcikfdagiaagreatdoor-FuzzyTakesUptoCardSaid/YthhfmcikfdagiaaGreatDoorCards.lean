/-
  DERIVED. GIVEN WITH THE SEED: THE CARDS: each row of YthhfmcikfdagiaaGreatDoorRows.lean that lists a variable, with what it lists TIED to the program's text (the seventh form; the later family's looks); each row that meets fmt, with fmt's text TOLD by the authors' own Lean function (tested against real Go, not proved from fmt's source: count such statements apart). THE CARD IS WHAT COUNTS. Prove the row's statement (the work); the ties are given (YthhfmcikfdagiaaGreatDoorTie.lean); close each card by the builder's one call (the guide's Derived/Test/ToyasCard.lean, 'card_holds'). Laid BY PROGRAM, IN A SANDBOX (cutbox-door.mjs). By AI agents, Wed Nov 11 2026. No macro, syntax, notation, axiom, sorry.
-/
import Derived.Test.YthhfmcikfdagiaaGreatDoorRows
import GoSem.ClaimSeven
namespace Go.Proofs.YthhfmcikfdagiaaGreatDoor
namespace Rows

/-- THE TIED CARD OF 'glosslaw11.FuzzyTakes'. -/
def fuzzyTakesCard : Claim7 := { stood := { row := fuzzyTakesRow, standIns := [], harness := (true, "9c226fbcfca580118e9ec0c3ca6d1b4cc8d12529a89dc726762fc8d8f020927e"), looks := false }, kinds := [], alts := [], laidByText := true, laidKinds := [.data, .pinned], laidTests := true, laidLooks := .later }
def FuzzyTakesCardSaid : Prop := Claim7.holds Tryz.pinned (.plain (OpenSpec.ofChange fuzzyTakesSpec)) fuzzyTakesCard

/-- THE SECOND FORM's CARD OF 'glosslaw11.FuzzyTakes'. -/
def fuzzyTakesUptoCard : Claim7 := { stood := { row := fuzzyTakesUptoRow, standIns := [], harness := (true, "9c226fbcfca580118e9ec0c3ca6d1b4cc8d12529a89dc726762fc8d8f020927e"), looks := false }, kinds := [], alts := [], laidByText := true, laidKinds := [.data, .pinned], laidTests := true, laidLooks := .later }
def FuzzyTakesUptoCardSaid : Prop := Claim7.holds Tryz.pinned (.plain (OpenSpec.upto fuzzyTakesSpec)) fuzzyTakesUptoCard
end Rows
end Go.Proofs.YthhfmcikfdagiaaGreatDoor
