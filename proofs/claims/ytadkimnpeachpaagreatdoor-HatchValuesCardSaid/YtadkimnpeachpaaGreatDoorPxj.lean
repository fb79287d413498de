/- The closed facts of the row. -/
import Derived.Test.YtadkimnpeachpaaGreatDoorPxja
import Derived.Test.YtadkimnpeachpaaGreatDoorPxjb
import Derived.Test.YtadkimnpeachpaaGreatDoorPxjc
import Derived.Test.YtadkimnpeachpaaGreatDoorPxjd
import Derived.JoinedOf
set_option maxRecDepth 1000000
set_option linter.unusedVariables false
namespace Go.Proofs.YtadkimnpeachpaaGreatDoor
open Go
theorem hatchValues_closed : joinedFacts Tryz.prog 3 Tryz.f3 Rows.hatchValuesSpec Rows.hatchValuesRow = true := by
  unfold joinedFacts
  simp only [Bool.and_eq_true]
  repeat' apply And.intro
  all_goals first | with_reducible exact hatchValues_inPlace | with_reducible exact hatchValues_unfollowed | with_reducible exact hatchValues_recurses | with_reducible exact hatchValues_named | kernel_rfl
end Go.Proofs.YtadkimnpeachpaaGreatDoor
