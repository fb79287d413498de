/- The closed facts of the row. -/
import Derived.Test.YtadkimnpeachpaaGreatDoorPzja
import Derived.Test.YtadkimnpeachpaaGreatDoorPzjb
import Derived.Test.YtadkimnpeachpaaGreatDoorPzjc
import Derived.Test.YtadkimnpeachpaaGreatDoorPzjd
import Derived.JoinedOf
set_option maxRecDepth 1000000
set_option linter.unusedVariables false
namespace Go.Proofs.YtadkimnpeachpaaGreatDoor
open Go
theorem hatchSums_closed : joinedFacts Tryz.prog 5 Tryz.f5 Rows.hatchSumsSpec Rows.hatchSumsRow = true := by
  unfold joinedFacts
  simp only [Bool.and_eq_true]
  repeat' apply And.intro
  all_goals first | with_reducible exact hatchSums_inPlace | with_reducible exact hatchSums_unfollowed | with_reducible exact hatchSums_recurses | with_reducible exact hatchSums_named | kernel_rfl
end Go.Proofs.YtadkimnpeachpaaGreatDoor
