/- The closed facts of the row. -/
import Derived.Test.YtfmnoohkllmbmaaGreatDoorPwja
import Derived.Test.YtfmnoohkllmbmaaGreatDoorPwjb
import Derived.Test.YtfmnoohkllmbmaaGreatDoorPwjc
import Derived.Test.YtfmnoohkllmbmaaGreatDoorPwjd
import Derived.JoinedOf
set_option maxRecDepth 1000000
set_option linter.unusedVariables false
namespace Go.Proofs.YtfmnoohkllmbmaaGreatDoor
open Go
theorem watchClean_closed : joinedFacts Tryz.prog 3 Tryz.f3 Rows.watchCleanSpec Rows.watchCleanRow = true := by
  unfold joinedFacts
  simp only [Bool.and_eq_true]
  repeat' apply And.intro
  all_goals first | with_reducible exact watchClean_inPlace | with_reducible exact watchClean_unfollowed | with_reducible exact watchClean_recurses | with_reducible exact watchClean_named | kernel_rfl
end Go.Proofs.YtfmnoohkllmbmaaGreatDoor
