/-
  DERIVED. GIVEN WITH THE SEED: THE CARDS: each row of YtkmpnlbppdekaaaDoorRows.lean that lists a variable, with what it lists TIED to the program's text (the seventh form; the later family's looks); each row that meets fmt, with fmt's text TOLD by the authors' own Lean function (tested against real Go, not proved from fmt's source: count such statements apart). THE CARD IS WHAT COUNTS. Prove the row's statement (the work); the ties are given (YtkmpnlbppdekaaaDoorTie.lean); close each card by the builder's one call (the guide's Derived/Test/ToyasCard.lean, 'card_holds'). Laid BY PROGRAM, IN A SANDBOX (cutbox-door.mjs). By AI agents, Wed Nov 11 2026. No macro, syntax, notation, axiom, sorry.
-/
import Derived.Test.YtkmpnlbppdekaaaDoorRows
import GoSem.ClaimSeven
namespace Go.Proofs.YtkmpnlbppdekaaaDoor
namespace Rows

/-- THE TIED CARD OF 'portcullislaw04.ParsePlaces'. -/
def parsePlacesCard : Claim7 := { stood := { row := parsePlacesRow, standIns := [], harness := (true, "9e61747805e5a0e9f88a82d6fc0c4c75832224f27e25dc4f036e2a236c44f526"), looks := true }, kinds := [], alts := [], laidByText := true, laidKinds := [.data, .data, .data, .sentinel, .sentinel], laidTests := true, laidLooks := .later }
def ParsePlacesCardSaid : Prop := Claim7.holds Tryd.pinned (.plain (OpenSpec.ofChange parsePlacesSpec)) parsePlacesCard

/-- THE TIED CARD OF 'portcullislaw04.ParseIn'. -/
def parseInCard : Claim7 := { stood := { row := parseInRow, standIns := [], harness := (true, "9e61747805e5a0e9f88a82d6fc0c4c75832224f27e25dc4f036e2a236c44f526"), looks := true }, kinds := [], alts := [], laidByText := true, laidKinds := [.data, .data, .data, .sentinel, .sentinel], laidTests := true, laidLooks := .later }
def ParseInCardSaid : Prop := Claim7.holds Tryd.pinned (.plain (OpenSpec.ofChange parseInSpec)) parseInCard

/-- THE TIED CARD OF 'portcullislaw04.ParseBehind'. -/
def parseBehindCard : Claim7 := { stood := { row := parseBehindRow, standIns := [], harness := (true, "9e61747805e5a0e9f88a82d6fc0c4c75832224f27e25dc4f036e2a236c44f526"), looks := true }, kinds := [], alts := [], laidByText := true, laidKinds := [.data, .data, .data, .sentinel, .sentinel], laidTests := true, laidLooks := .later }
def ParseBehindCardSaid : Prop := Claim7.holds Tryd.pinned (.plain (OpenSpec.ofChange parseBehindSpec)) parseBehindCard

/-- THE SECOND FORM's CARD OF 'portcullislaw04.ParsePlaces'. -/
def parsePlacesUptoCard : Claim7 := { stood := { row := parsePlacesUptoRow, standIns := [], harness := (true, "9e61747805e5a0e9f88a82d6fc0c4c75832224f27e25dc4f036e2a236c44f526"), looks := true }, kinds := [], alts := [], laidByText := true, laidKinds := [.data, .data, .data, .sentinel, .sentinel], laidTests := true, laidLooks := .later }
def ParsePlacesUptoCardSaid : Prop := Claim7.holds Tryd.pinned (.plain (OpenSpec.upto parsePlacesSpec)) parsePlacesUptoCard

/-- THE SECOND FORM's CARD OF 'portcullislaw04.ParseIn'. -/
def parseInUptoCard : Claim7 := { stood := { row := parseInUptoRow, standIns := [], harness := (true, "9e61747805e5a0e9f88a82d6fc0c4c75832224f27e25dc4f036e2a236c44f526"), looks := true }, kinds := [], alts := [], laidByText := true, laidKinds := [.data, .data, .data, .sentinel, .sentinel], laidTests := true, laidLooks := .later }
def ParseInUptoCardSaid : Prop := Claim7.holds Tryd.pinned (.plain (OpenSpec.upto parseInSpec)) parseInUptoCard

/-- THE SECOND FORM's CARD OF 'portcullislaw04.ParseBehind'. -/
def parseBehindUptoCard : Claim7 := { stood := { row := parseBehindUptoRow, standIns := [], harness := (true, "9e61747805e5a0e9f88a82d6fc0c4c75832224f27e25dc4f036e2a236c44f526"), looks := true }, kinds := [], alts := [], laidByText := true, laidKinds := [.data, .data, .data, .sentinel, .sentinel], laidTests := true, laidLooks := .later }
def ParseBehindUptoCardSaid : Prop := Claim7.holds Tryd.pinned (.plain (OpenSpec.upto parseBehindSpec)) parseBehindUptoCard
end Rows
end Go.Proofs.YtkmpnlbppdekaaaDoor
