/-
  DERIVED. GIVEN WITH THE SEED: THE CARDS: each row of YthhfmcikfdagiaaDoorRows.lean that lists a variable, with what it lists TIED to the program's text (the seventh form; the later family's looks); each row that meets fmt, with fmt's text TOLD by the authors' own Lean function (tested against real Go, not proved from fmt's source: count such statements apart). THE CARD IS WHAT COUNTS. Prove the row's statement (the work); the ties are given (YthhfmcikfdagiaaDoorTie.lean); close each card by the builder's one call (the guide's Derived/Test/ToyasCard.lean, 'card_holds'). Laid BY PROGRAM, IN A SANDBOX (cutbox-door.mjs). By AI agents, Wed Nov 11 2026. No macro, syntax, notation, axiom, sorry.
-/
import Derived.Test.YthhfmcikfdagiaaDoorRows
import GoSem.ClaimSeven
namespace Go.Proofs.YthhfmcikfdagiaaDoor
namespace Rows

/-- THE TIED CARD OF 'glosslaw11.FuzzyDistances'. -/
def fuzzyDistancesCard : Claim7 := { stood := { row := fuzzyDistancesRow, standIns := [], harness := (true, "856c7f0b581017d35b4e05ede1eb43fab2142ea21cf53ecb3aa008676faa97af"), looks := false }, kinds := [], alts := [], laidByText := true, laidKinds := [.data, .pinned], laidTests := true, laidLooks := .later }
def FuzzyDistancesCardSaid : Prop := Claim7.holds Tryd.pinned (.plain (OpenSpec.ofChange fuzzyDistancesSpec)) fuzzyDistancesCard

/-- THE TIED CARD OF 'glosslaw11.FuzzyMetric'. -/
def fuzzyMetricCard : Claim7 := { stood := { row := fuzzyMetricRow, standIns := [], harness := (true, "856c7f0b581017d35b4e05ede1eb43fab2142ea21cf53ecb3aa008676faa97af"), looks := false }, kinds := [], alts := [], laidByText := true, laidKinds := [.data, .pinned], laidTests := true, laidLooks := .later }
def FuzzyMetricCardSaid : Prop := Claim7.holds Tryd.pinned (.plain (OpenSpec.ofChange fuzzyMetricSpec)) fuzzyMetricCard

/-- THE SECOND FORM's CARD OF 'glosslaw11.FuzzyDistances'. -/
def fuzzyDistancesUptoCard : Claim7 := { stood := { row := fuzzyDistancesUptoRow, standIns := [], harness := (true, "856c7f0b581017d35b4e05ede1eb43fab2142ea21cf53ecb3aa008676faa97af"), looks := false }, kinds := [], alts := [], laidByText := true, laidKinds := [.data, .pinned], laidTests := true, laidLooks := .later }
def FuzzyDistancesUptoCardSaid : Prop := Claim7.holds Tryd.pinned (.plain (OpenSpec.upto fuzzyDistancesSpec)) fuzzyDistancesUptoCard

/-- THE SECOND FORM's CARD OF 'glosslaw11.FuzzyMetric'. -/
def fuzzyMetricUptoCard : Claim7 := { stood := { row := fuzzyMetricUptoRow, standIns := [], harness := (true, "856c7f0b581017d35b4e05ede1eb43fab2142ea21cf53ecb3aa008676faa97af"), looks := false }, kinds := [], alts := [], laidByText := true, laidKinds := [.data, .pinned], laidTests := true, laidLooks := .later }
def FuzzyMetricUptoCardSaid : Prop := Claim7.holds Tryd.pinned (.plain (OpenSpec.upto fuzzyMetricSpec)) fuzzyMetricUptoCard
end Rows
end Go.Proofs.YthhfmcikfdagiaaDoor
