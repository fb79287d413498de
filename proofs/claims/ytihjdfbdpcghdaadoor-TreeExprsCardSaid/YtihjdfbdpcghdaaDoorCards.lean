/-
  DERIVED. GIVEN WITH THE SEED: THE CARDS: each row of YtihjdfbdpcghdaaDoorRows.lean that lists a variable, with what it lists TIED to the program's text (the seventh form; the later family's looks); each row that meets fmt, with fmt's text TOLD by the authors' own Lean function (tested against real Go, not proved from fmt's source: count such statements apart). THE CARD IS WHAT COUNTS. Prove the row's statement (the work); the ties are given (YtihjdfbdpcghdaaDoorTie.lean); close each card by the builder's one call (the guide's Derived/Test/ToyasCard.lean, 'card_holds'). Laid BY PROGRAM, IN A SANDBOX (cutbox-door.mjs). By AI agents, Wed Nov 11 2026. No macro, syntax, notation, axiom, sorry.
-/
import Derived.Test.YtihjdfbdpcghdaaDoorRows
import GoSem.ClaimSeven
namespace Go.Proofs.YtihjdfbdpcghdaaDoor
namespace Rows

/-- THE TIED CARD OF 'portcullislaw03.TreeExprs'. -/
def treeExprsCard : Claim7 := { stood := { row := treeExprsRow, standIns := [], harness := (true, "4fd5755781e4d02310dac6efb226fd48b9ef47947cbb229d847a7752fa2ed6f6"), looks := true }, kinds := [], alts := [], laidByText := true, laidKinds := [.data, .data, .data], laidTests := true, laidLooks := .later }
def TreeExprsCardSaid : Prop := Claim7.holds Tryd.pinned (.plain (OpenSpec.ofChange treeExprsSpec)) treeExprsCard

/-- THE SECOND FORM's CARD OF 'portcullislaw03.TreeExprs'. -/
def treeExprsUptoCard : Claim7 := { stood := { row := treeExprsUptoRow, standIns := [], harness := (true, "4fd5755781e4d02310dac6efb226fd48b9ef47947cbb229d847a7752fa2ed6f6"), looks := true }, kinds := [], alts := [], laidByText := true, laidKinds := [.data, .data, .data], laidTests := true, laidLooks := .later }
def TreeExprsUptoCardSaid : Prop := Claim7.holds Tryd.pinned (.plain (OpenSpec.upto treeExprsSpec)) treeExprsUptoCard
end Rows
end Go.Proofs.YtihjdfbdpcghdaaDoor
