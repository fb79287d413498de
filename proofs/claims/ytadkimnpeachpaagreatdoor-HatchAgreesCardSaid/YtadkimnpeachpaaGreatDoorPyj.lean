/- The closed facts of the row. -/
import Derived.Test.YtadkimnpeachpaaGreatDoorPyja
import Derived.Test.YtadkimnpeachpaaGreatDoorPyjb
import Derived.Test.YtadkimnpeachpaaGreatDoorPyjc
import Derived.Test.YtadkimnpeachpaaGreatDoorPyjd
import Derived.JoinedOf
set_option maxRecDepth 1000000
set_option linter.unusedVariables false
namespace Go.Proofs.YtadkimnpeachpaaGreatDoor
open Go
theorem hatchAgrees_closed : joinedFacts Tryz.prog 4 Tryz.f4 Rows.hatchAgreesSpec Rows.hatchAgreesRow = true := by
  unfold joinedFacts
  simp only [Bool.and_eq_true]
  repeat' apply And.intro
  all_goals first | with_reducible exact hatchAgrees_inPlace | with_reducible exact hatchAgrees_unfollowed | with_reducible exact hatchAgrees_recurses | with_reducible exact hatchAgrees_named | kernel_rfl
end Go.Proofs.YtadkimnpeachpaaGreatDoor
