/- alive of portcullislaw08: some of its parts. -/
import Derived.Test.YtadkimnpeachpaaGreatDoorEhKz
set_option maxRecDepth 1000000
set_option linter.unusedVariables false
namespace Go.Proofs.YtadkimnpeachpaaGreatDoor
open Ev
open Go.RowKit
theorem k7 : chunk (envP Tryz.prog) 10000 (fstC (sndC (sndC (sndC (sndC (sndC (sndC (Tryz.f6.body.getD .skip)))))))) s6 false s7 = true := by kernel_rfl
theorem k8 : chunk (envP Tryz.prog) 10000 (sndC (sndC (sndC (sndC (sndC (sndC (sndC (Tryz.f6.body.getD .skip)))))))) s7 true s8 = true := by kernel_rfl
end Go.Proofs.YtadkimnpeachpaaGreatDoor
