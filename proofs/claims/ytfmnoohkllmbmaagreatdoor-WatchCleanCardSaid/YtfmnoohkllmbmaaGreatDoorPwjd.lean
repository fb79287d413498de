/- A closed fact of the row: named. -/
import Derived.Test.YtfmnoohkllmbmaaGreatDoorRows
import Derived.KernelRfl
set_option maxRecDepth 1000000
set_option linter.unusedVariables false
namespace Go.Proofs.YtfmnoohkllmbmaaGreatDoor
open Go
theorem watchClean_named : (Rows.watchCleanRow.named == Tryz.prog.varsNamed 3) = true := by kernel_rfl
end Go.Proofs.YtfmnoohkllmbmaaGreatDoor
