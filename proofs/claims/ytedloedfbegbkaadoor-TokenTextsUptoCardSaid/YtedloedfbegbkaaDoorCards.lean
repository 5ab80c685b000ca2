/-
  DERIVED. GIVEN WITH THE SEED: THE CARDS: each row of YtedloedfbegbkaaDoorRows.lean that lists a variable, with what it lists TIED to the program's text (the seventh form; the later family's looks); each row that meets fmt, with fmt's text TOLD by the authors' own Lean function (tested against real Go, not proved from fmt's source: count such statements apart). THE CARD IS WHAT COUNTS. Prove the row's statement (the work); the ties are given (YtedloedfbegbkaaDoorTie.lean); close each card by the builder's one call (the guide's Derived/Test/ToyasCard.lean, 'card_holds'). Laid BY PROGRAM, IN A SANDBOX (cutbox-door.mjs). By AI agents, Wed Nov 11 2026. No macro, syntax, notation, axiom, sorry.
-/
import Derived.Test.YtedloedfbegbkaaDoorRows
import GoSem.ClaimSeven
namespace Go.Proofs.YtedloedfbegbkaaDoor
namespace Rows

/-- THE TIED CARD OF 'glosslaw06.TokenTexts'. -/
def tokenTextsCard : Claim7 := { stood := { row := tokenTextsRow, standIns := [], harness := (true, "842347235b3757fc3d0331374161815a1c0f0f631cbb78fe4d84b3ef53ef534b"), looks := false }, kinds := [], alts := [], laidByText := true, laidKinds := [.data, .pinned], laidTests := true, laidLooks := .later }
def TokenTextsCardSaid : Prop := Claim7.holds Tryd.pinned (.plain (OpenSpec.ofChange tokenTextsSpec)) tokenTextsCard

/-- THE TIED CARD OF 'glosslaw06.TokenJoins'. -/
def tokenJoinsCard : Claim7 := { stood := { row := tokenJoinsRow, standIns := [], harness := (true, "842347235b3757fc3d0331374161815a1c0f0f631cbb78fe4d84b3ef53ef534b"), looks := false }, kinds := [], alts := [], laidByText := true, laidKinds := [.data, .pinned], laidTests := true, laidLooks := .later }
def TokenJoinsCardSaid : Prop := Claim7.holds Tryd.pinned (.plain (OpenSpec.ofChange tokenJoinsSpec)) tokenJoinsCard

/-- THE TIED CARD OF 'glosslaw06.TokenTwice'. -/
def tokenTwiceCard : Claim7 := { stood := { row := tokenTwiceRow, standIns := [], harness := (true, "842347235b3757fc3d0331374161815a1c0f0f631cbb78fe4d84b3ef53ef534b"), looks := false }, kinds := [], alts := [], laidByText := true, laidKinds := [.data, .pinned], laidTests := true, laidLooks := .later }
def TokenTwiceCardSaid : Prop := Claim7.holds Tryd.pinned (.plain (OpenSpec.ofChange tokenTwiceSpec)) tokenTwiceCard

/-- THE SECOND FORM's CARD OF 'glosslaw06.TokenTexts'. -/
def tokenTextsUptoCard : Claim7 := { stood := { row := tokenTextsUptoRow, standIns := [], harness := (true, "842347235b3757fc3d0331374161815a1c0f0f631cbb78fe4d84b3ef53ef534b"), looks := false }, kinds := [], alts := [], laidByText := true, laidKinds := [.data, .pinned], laidTests := true, laidLooks := .later }
def TokenTextsUptoCardSaid : Prop := Claim7.holds Tryd.pinned (.plain (OpenSpec.upto tokenTextsSpec)) tokenTextsUptoCard

/-- THE SECOND FORM's CARD OF 'glosslaw06.TokenJoins'. -/
def tokenJoinsUptoCard : Claim7 := { stood := { row := tokenJoinsUptoRow, standIns := [], harness := (true, "842347235b3757fc3d0331374161815a1c0f0f631cbb78fe4d84b3ef53ef534b"), looks := false }, kinds := [], alts := [], laidByText := true, laidKinds := [.data, .pinned], laidTests := true, laidLooks := .later }
def TokenJoinsUptoCardSaid : Prop := Claim7.holds Tryd.pinned (.plain (OpenSpec.upto tokenJoinsSpec)) tokenJoinsUptoCard

/-- THE SECOND FORM's CARD OF 'glosslaw06.TokenTwice'. -/
def tokenTwiceUptoCard : Claim7 := { stood := { row := tokenTwiceUptoRow, standIns := [], harness := (true, "842347235b3757fc3d0331374161815a1c0f0f631cbb78fe4d84b3ef53ef534b"), looks := false }, kinds := [], alts := [], laidByText := true, laidKinds := [.data, .pinned], laidTests := true, laidLooks := .later }
def TokenTwiceUptoCardSaid : Prop := Claim7.holds Tryd.pinned (.plain (OpenSpec.upto tokenTwiceSpec)) tokenTwiceUptoCard
end Rows
end Go.Proofs.YtedloedfbegbkaaDoor
