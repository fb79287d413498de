/-
  DERIVED. GIVEN WITH THE SEED: THE CARDS: each row of YtfmnoohkllmbmaaGreatDoorRows.lean that lists a variable, with what it lists TIED to the program's text (the seventh form; the later family's looks); each row that meets fmt, with fmt's text TOLD by the authors' own Lean function (tested against real Go, not proved from fmt's source: count such statements apart). THE CARD IS WHAT COUNTS. Prove the row's statement (the work); the ties are given (YtfmnoohkllmbmaaGreatDoorTie.lean); close each card by the builder's one call (the guide's Derived/Test/ToyasCard.lean, 'card_holds'). Laid BY PROGRAM, IN A SANDBOX (cutbox-door.mjs). By AI agents, Wed Nov 11 2026. No macro, syntax, notation, axiom, sorry.
-/
import Derived.Test.YtfmnoohkllmbmaaGreatDoorRows
import GoSem.ClaimSeven
namespace Go.Proofs.YtfmnoohkllmbmaaGreatDoor
namespace Rows

/-- THE TIED CARD OF 'portcullislaw16.WatchClean'. -/
def watchCleanCard : Claim7 := { stood := { row := watchCleanRow, standIns := [], harness := (true, "857843354786b735d88bdeea0e6dc30da7918ca73a288409329e6d44acf934de"), looks := true }, kinds := [], alts := [], laidByText := true, laidKinds := [.data, .data, .data, .sentinel, .sentinel], laidTests := true, laidLooks := .later }
def WatchCleanCardSaid : Prop := Claim7.holds Tryz.pinned (.plain (OpenSpec.ofChange watchCleanSpec)) watchCleanCard

/-- THE SECOND FORM's CARD OF 'portcullislaw16.WatchClean'. -/
def watchCleanUptoCard : Claim7 := { stood := { row := watchCleanUptoRow, standIns := [], harness := (true, "857843354786b735d88bdeea0e6dc30da7918ca73a288409329e6d44acf934de"), looks := true }, kinds := [], alts := [], laidByText := true, laidKinds := [.data, .data, .data, .sentinel, .sentinel], laidTests := true, laidLooks := .later }
def WatchCleanUptoCardSaid : Prop := Claim7.holds Tryz.pinned (.plain (OpenSpec.upto watchCleanSpec)) watchCleanUptoCard
end Rows
end Go.Proofs.YtfmnoohkllmbmaaGreatDoor
