/- A closed fact of the row: inPlace. -/
import Derived.Test.YtadkimnpeachpaaGreatDoorRows
import Derived.KernelRfl
set_option maxRecDepth 1000000
set_option linter.unusedVariables false
namespace Go.Proofs.YtadkimnpeachpaaGreatDoor
open Go
theorem hatchSums_inPlace : (Rows.hatchSumsRow.inPlace == Tryz.prog.inPlace 5) = true := by kernel_rfl
end Go.Proofs.YtadkimnpeachpaaGreatDoor
