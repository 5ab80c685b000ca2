/-
  DERIVED. GIVEN WITH THE SEED: THE CARDS: each row of YtmhchajdeneabaaGreatDoorRows.lean that lists a variable, with what it lists TIED to the program's text (the seventh form; the later family's looks); each row that meets fmt, with fmt's text TOLD by the authors' own Lean function (tested against real Go, not proved from fmt's source: count such statements apart). THE CARD IS WHAT COUNTS. Prove the row's statement (the work); the ties are given (YtmhchajdeneabaaGreatDoorTie.lean); close each card by the builder's one call (the guide's Derived/Test/ToyasCard.lean, 'card_holds'). Laid BY PROGRAM, IN A SANDBOX (cutbox-door.mjs). By AI agents, Wed Nov 11 2026. No macro, syntax, notation, axiom, sorry.
-/
import Derived.Test.YtmhchajdeneabaaGreatDoorRows
import GoSem.ClaimSeven
namespace Go.Proofs.YtmhchajdeneabaaGreatDoor
namespace Rows

/-- THE TIED CARD OF 'glosslaw10.WildLetters'. -/
def wildLettersCard : Claim7 := { stood := { row := wildLettersRow, standIns := [], harness := (true, "a1d87a998e9c47db2ccd46da9116294792eb56387526f0495a5ebde1bd7d3547"), looks := false }, kinds := [], alts := [], laidByText := true, laidKinds := [.data, .pinned], laidTests := true, laidLooks := .later }
def WildLettersCardSaid : Prop := Claim7.holds Tryz.pinned (.plain (OpenSpec.ofChange wildLettersSpec)) wildLettersCard

/-- THE TIED CARD OF 'glosslaw10.WildPrefixes'. -/
def wildPrefixesCard : Claim7 := { stood := { row := wildPrefixesRow, standIns := [], harness := (true, "a1d87a998e9c47db2ccd46da9116294792eb56387526f0495a5ebde1bd7d3547"), looks := false }, kinds := [], alts := [], laidByText := true, laidKinds := [.data, .pinned], laidTests := true, laidLooks := .later }
def WildPrefixesCardSaid : Prop := Claim7.holds Tryz.pinned (.plain (OpenSpec.ofChange wildPrefixesSpec)) wildPrefixesCard

/-- THE TIED CARD OF 'glosslaw10.WildSame'. -/
def wildSameCard : Claim7 := { stood := { row := wildSameRow, standIns := [], harness := (true, "a1d87a998e9c47db2ccd46da9116294792eb56387526f0495a5ebde1bd7d3547"), looks := false }, kinds := [], alts := [], laidByText := true, laidKinds := [.data, .pinned], laidTests := true, laidLooks := .later }
def WildSameCardSaid : Prop := Claim7.holds Tryz.pinned (.plain (OpenSpec.ofChange wildSameSpec)) wildSameCard

/-- THE SECOND FORM's CARD OF 'glosslaw10.WildLetters'. -/
def wildLettersUptoCard : Claim7 := { stood := { row := wildLettersUptoRow, standIns := [], harness := (true, "a1d87a998e9c47db2ccd46da9116294792eb56387526f0495a5ebde1bd7d3547"), looks := false }, kinds := [], alts := [], laidByText := true, laidKinds := [.data, .pinned], laidTests := true, laidLooks := .later }
def WildLettersUptoCardSaid : Prop := Claim7.holds Tryz.pinned (.plain (OpenSpec.upto wildLettersSpec)) wildLettersUptoCard

/-- THE SECOND FORM's CARD OF 'glosslaw10.WildPrefixes'. -/
def wildPrefixesUptoCard : Claim7 := { stood := { row := wildPrefixesUptoRow, standIns := [], harness := (true, "a1d87a998e9c47db2ccd46da9116294792eb56387526f0495a5ebde1bd7d3547"), looks := false }, kinds := [], alts := [], laidByText := true, laidKinds := [.data, .pinned], laidTests := true, laidLooks := .later }
def WildPrefixesUptoCardSaid : Prop := Claim7.holds Tryz.pinned (.plain (OpenSpec.upto wildPrefixesSpec)) wildPrefixesUptoCard

/-- THE SECOND FORM's CARD OF 'glosslaw10.WildSame'. -/
def wildSameUptoCard : Claim7 := { stood := { row := wildSameUptoRow, standIns := [], harness := (true, "a1d87a998e9c47db2ccd46da9116294792eb56387526f0495a5ebde1bd7d3547"), looks := false }, kinds := [], alts := [], laidByText := true, laidKinds := [.data, .pinned], laidTests := true, laidLooks := .later }
def WildSameUptoCardSaid : Prop := Claim7.holds Tryz.pinned (.plain (OpenSpec.upto wildSameSpec)) wildSameUptoCard
end Rows
end Go.Proofs.YtmhchajdeneabaaGreatDoor
