/-
  DERIVED. GIVEN WITH THE SEED: THE CARDS: each row of YtbckeljbpknbdaaGreatDoorRows.lean that lists a variable, with what it lists TIED to the program's text (the seventh form; the later family's looks); each row that meets fmt, with fmt's text TOLD by the authors' own Lean function (tested against real Go, not proved from fmt's source: count such statements apart). THE CARD IS WHAT COUNTS. Prove the row's statement (the work); the ties are given (YtbckeljbpknbdaaGreatDoorTie.lean); close each card by the builder's one call (the guide's Derived/Test/ToyasCard.lean, 'card_holds'). Laid BY PROGRAM, IN A SANDBOX (cutbox-door.mjs). By AI agents, Wed Nov 11 2026. No macro, syntax, notation, axiom, sorry.
-/
import Derived.Test.YtbckeljbpknbdaaGreatDoorRows
import GoSem.ClaimSeven
namespace Go.Proofs.YtbckeljbpknbdaaGreatDoor
namespace Rows

/-- THE TIED CARD OF 'portcullislaw06.ScopeFinds'. -/
def scopeFindsCard : Claim7 := { stood := { row := scopeFindsRow, standIns := [], harness := (true, "4fa5311912544140f9e0d2c0f06d37679f36473bef35ee7646ff926e7b112b0c"), looks := true }, kinds := [], alts := [], laidByText := true, laidKinds := [.data, .data, .data, .sentinel, .sentinel], laidTests := true, laidLooks := .later }
def ScopeFindsCardSaid : Prop := Claim7.holds Tryz.pinned (.plain (OpenSpec.ofChange scopeFindsSpec)) scopeFindsCard

/-- THE TIED CARD OF 'portcullislaw06.ScopeSorted'. -/
def scopeSortedCard : Claim7 := { stood := { row := scopeSortedRow, standIns := [], harness := (true, "4fa5311912544140f9e0d2c0f06d37679f36473bef35ee7646ff926e7b112b0c"), looks := true }, kinds := [], alts := [], laidByText := true, laidKinds := [.data, .data, .data, .sentinel, .sentinel], laidTests := true, laidLooks := .later }
def ScopeSortedCardSaid : Prop := Claim7.holds Tryz.pinned (.plain (OpenSpec.ofChange scopeSortedSpec)) scopeSortedCard

/-- THE TIED CARD OF 'portcullislaw06.ScopeBehind'. -/
def scopeBehindCard : Claim7 := { stood := { row := scopeBehindRow, standIns := [], harness := (true, "4fa5311912544140f9e0d2c0f06d37679f36473bef35ee7646ff926e7b112b0c"), looks := true }, kinds := [], alts := [], laidByText := true, laidKinds := [.data, .data, .data, .sentinel, .sentinel], laidTests := true, laidLooks := .later }
def ScopeBehindCardSaid : Prop := Claim7.holds Tryz.pinned (.plain (OpenSpec.ofChange scopeBehindSpec)) scopeBehindCard

/-- THE TIED CARD OF 'portcullislaw06.ScopeLocals'. -/
def scopeLocalsCard : Claim7 := { stood := { row := scopeLocalsRow, standIns := [], harness := (true, "4fa5311912544140f9e0d2c0f06d37679f36473bef35ee7646ff926e7b112b0c"), looks := true }, kinds := [], alts := [], laidByText := true, laidKinds := [.data, .data, .data, .sentinel, .sentinel], laidTests := true, laidLooks := .later }
def ScopeLocalsCardSaid : Prop := Claim7.holds Tryz.pinned (.plain (OpenSpec.ofChange scopeLocalsSpec)) scopeLocalsCard

/-- THE TIED CARD OF 'portcullislaw06.ScopeCounts'. -/
def scopeCountsCard : Claim7 := { stood := { row := scopeCountsRow, standIns := [], harness := (true, "4fa5311912544140f9e0d2c0f06d37679f36473bef35ee7646ff926e7b112b0c"), looks := true }, kinds := [], alts := [], laidByText := true, laidKinds := [.data, .data, .data, .sentinel, .sentinel], laidTests := true, laidLooks := .later }
def ScopeCountsCardSaid : Prop := Claim7.holds Tryz.pinned (.plain (OpenSpec.ofChange scopeCountsSpec)) scopeCountsCard

/-- THE SECOND FORM's CARD OF 'portcullislaw06.ScopeFinds'. -/
def scopeFindsUptoCard : Claim7 := { stood := { row := scopeFindsUptoRow, standIns := [], harness := (true, "4fa5311912544140f9e0d2c0f06d37679f36473bef35ee7646ff926e7b112b0c"), looks := true }, kinds := [], alts := [], laidByText := true, laidKinds := [.data, .data, .data, .sentinel, .sentinel], laidTests := true, laidLooks := .later }
def ScopeFindsUptoCardSaid : Prop := Claim7.holds Tryz.pinned (.plain (OpenSpec.upto scopeFindsSpec)) scopeFindsUptoCard

/-- THE SECOND FORM's CARD OF 'portcullislaw06.ScopeSorted'. -/
def scopeSortedUptoCard : Claim7 := { stood := { row := scopeSortedUptoRow, standIns := [], harness := (true, "4fa5311912544140f9e0d2c0f06d37679f36473bef35ee7646ff926e7b112b0c"), looks := true }, kinds := [], alts := [], laidByText := true, laidKinds := [.data, .data, .data, .sentinel, .sentinel], laidTests := true, laidLooks := .later }
def ScopeSortedUptoCardSaid : Prop := Claim7.holds Tryz.pinned (.plain (OpenSpec.upto scopeSortedSpec)) scopeSortedUptoCard

/-- THE SECOND FORM's CARD OF 'portcullislaw06.ScopeBehind'. -/
def scopeBehindUptoCard : Claim7 := { stood := { row := scopeBehindUptoRow, standIns := [], harness := (true, "4fa5311912544140f9e0d2c0f06d37679f36473bef35ee7646ff926e7b112b0c"), looks := true }, kinds := [], alts := [], laidByText := true, laidKinds := [.data, .data, .data, .sentinel, .sentinel], laidTests := true, laidLooks := .later }
def ScopeBehindUptoCardSaid : Prop := Claim7.holds Tryz.pinned (.plain (OpenSpec.upto scopeBehindSpec)) scopeBehindUptoCard

/-- THE SECOND FORM's CARD OF 'portcullislaw06.ScopeLocals'. -/
def scopeLocalsUptoCard : Claim7 := { stood := { row := scopeLocalsUptoRow, standIns := [], harness := (true, "4fa5311912544140f9e0d2c0f06d37679f36473bef35ee7646ff926e7b112b0c"), looks := true }, kinds := [], alts := [], laidByText := true, laidKinds := [.data, .data, .data, .sentinel, .sentinel], laidTests := true, laidLooks := .later }
def ScopeLocalsUptoCardSaid : Prop := Claim7.holds Tryz.pinned (.plain (OpenSpec.upto scopeLocalsSpec)) scopeLocalsUptoCard

/-- THE SECOND FORM's CARD OF 'portcullislaw06.ScopeCounts'. -/
def scopeCountsUptoCard : Claim7 := { stood := { row := scopeCountsUptoRow, standIns := [], harness := (true, "4fa5311912544140f9e0d2c0f06d37679f36473bef35ee7646ff926e7b112b0c"), looks := true }, kinds := [], alts := [], laidByText := true, laidKinds := [.data, .data, .data, .sentinel, .sentinel], laidTests := true, laidLooks := .later }
def ScopeCountsUptoCardSaid : Prop := Claim7.holds Tryz.pinned (.plain (OpenSpec.upto scopeCountsSpec)) scopeCountsUptoCard
end Rows
end Go.Proofs.YtbckeljbpknbdaaGreatDoor
