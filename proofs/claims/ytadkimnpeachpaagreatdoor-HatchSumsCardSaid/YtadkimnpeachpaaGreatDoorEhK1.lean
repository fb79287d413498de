/- alive of portcullislaw08: some of its parts. -/
import Derived.Test.YtadkimnpeachpaaGreatDoorEhKz
set_option maxRecDepth 1000000
set_option linter.unusedVariables false
namespace Go.Proofs.YtadkimnpeachpaaGreatDoor
open Ev
open Go.RowKit
theorem k1 : chunk (envP Tryz.prog) 10000 (fstC (Tryz.f6.body.getD .skip)) s0 false s1 = true := by kernel_rfl
theorem k2 : chunk (envP Tryz.prog) 10000 (fstC (sndC (Tryz.f6.body.getD .skip))) s1 false s2 = true := by kernel_rfl
theorem k3 : chunk (envP Tryz.prog) 10000 (fstC (sndC (sndC (Tryz.f6.body.getD .skip)))) s2 false s3 = true := by kernel_rfl
end Go.Proofs.YtadkimnpeachpaaGreatDoor
