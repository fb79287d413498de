/-
  DERIVED. GIVEN WITH THE SEED: THE CARDS: each row of YtadkimnpeachpaaGreatDoorRows.lean that lists a variable, with what it lists TIED to the program's text (the seventh form; the later family's looks); each row that meets fmt, with fmt's text TOLD by the authors' own Lean function (tested against real Go, not proved from fmt's source: count such statements apart). THE CARD IS WHAT COUNTS. Prove the row's statement (the work); the ties are given (YtadkimnpeachpaaGreatDoorTie.lean); close each card by the builder's one call (the guide's Derived/Test/ToyasCard.lean, 'card_holds'). Laid BY PROGRAM, IN A SANDBOX (cutbox-door.mjs). By AI agents, Wed Nov 11 2026. No macro, syntax, notation, axiom, sorry.
-/
import Derived.Test.YtadkimnpeachpaaGreatDoorRows
import GoSem.ClaimSeven
namespace Go.Proofs.YtadkimnpeachpaaGreatDoor
namespace Rows

/-- THE TIED CARD OF 'portcullislaw08.HatchValues'. -/
def hatchValuesCard : Claim7 := { stood := { row := hatchValuesRow, standIns := [], harness := (true, "ffe437fc508f25f5e6303818be0cf616efe1c61bf3da8a6bd230aa02d1695c2e"), looks := true }, kinds := [], alts := [], laidByText := true, laidKinds := [.data, .data, .data, .data, .sentinel, .sentinel, .pinned], laidTests := true, laidLooks := .later }
def HatchValuesCardSaid : Prop := Claim7.holds Tryz.pinned (.plain (OpenSpec.ofChange hatchValuesSpec)) hatchValuesCard

/-- THE TIED CARD OF 'portcullislaw08.HatchAgrees'. -/
def hatchAgreesCard : Claim7 := { stood := { row := hatchAgreesRow, standIns := [], harness := (true, "ffe437fc508f25f5e6303818be0cf616efe1c61bf3da8a6bd230aa02d1695c2e"), looks := true }, kinds := [], alts := [], laidByText := true, laidKinds := [.data, .data, .data, .data, .sentinel, .sentinel, .pinned], laidTests := true, laidLooks := .later }
def HatchAgreesCardSaid : Prop := Claim7.holds Tryz.pinned (.plain (OpenSpec.ofChange hatchAgreesSpec)) hatchAgreesCard

/-- THE TIED CARD OF 'portcullislaw08.HatchSums'. -/
def hatchSumsCard : Claim7 := { stood := { row := hatchSumsRow, standIns := [], harness := (true, "ffe437fc508f25f5e6303818be0cf616efe1c61bf3da8a6bd230aa02d1695c2e"), looks := true }, kinds := [], alts := [], laidByText := true, laidKinds := [.data, .data, .data, .data, .sentinel, .sentinel, .pinned], laidTests := true, laidLooks := .later }
def HatchSumsCardSaid : Prop := Claim7.holds Tryz.pinned (.plain (OpenSpec.ofChange hatchSumsSpec)) hatchSumsCard

/-- THE SECOND FORM's CARD OF 'portcullislaw08.HatchValues'. -/
def hatchValuesUptoCard : Claim7 := { stood := { row := hatchValuesUptoRow, standIns := [], harness := (true, "ffe437fc508f25f5e6303818be0cf616efe1c61bf3da8a6bd230aa02d1695c2e"), looks := true }, kinds := [], alts := [], laidByText := true, laidKinds := [.data, .data, .data, .data, .sentinel, .sentinel, .pinned], laidTests := true, laidLooks := .later }
def HatchValuesUptoCardSaid : Prop := Claim7.holds Tryz.pinned (.plain (OpenSpec.upto hatchValuesSpec)) hatchValuesUptoCard

/-- THE SECOND FORM's CARD OF 'portcullislaw08.HatchAgrees'. -/
def hatchAgreesUptoCard : Claim7 := { stood := { row := hatchAgreesUptoRow, standIns := [], harness := (true, "ffe437fc508f25f5e6303818be0cf616efe1c61bf3da8a6bd230aa02d1695c2e"), looks := true }, kinds := [], alts := [], laidByText := true, laidKinds := [.data, .data, .data, .data, .sentinel, .sentinel, .pinned], laidTests := true, laidLooks := .later }
def HatchAgreesUptoCardSaid : Prop := Claim7.holds Tryz.pinned (.plain (OpenSpec.upto hatchAgreesSpec)) hatchAgreesUptoCard

/-- THE SECOND FORM's CARD OF 'portcullislaw08.HatchSums'. -/
def hatchSumsUptoCard : Claim7 := { stood := { row := hatchSumsUptoRow, standIns := [], harness := (true, "ffe437fc508f25f5e6303818be0cf616efe1c61bf3da8a6bd230aa02d1695c2e"), looks := true }, kinds := [], alts := [], laidByText := true, laidKinds := [.data, .data, .data, .data, .sentinel, .sentinel, .pinned], laidTests := true, laidLooks := .later }
def HatchSumsUptoCardSaid : Prop := Claim7.holds Tryz.pinned (.plain (OpenSpec.upto hatchSumsSpec)) hatchSumsUptoCard
end Rows
end Go.Proofs.YtadkimnpeachpaaGreatDoor
