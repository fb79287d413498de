/- alive of portcullislaw08: some of its parts. -/
import Derived.Test.YtadkimnpeachpaaGreatDoorEhKz
set_option maxRecDepth 1000000
set_option linter.unusedVariables false
namespace Go.Proofs.YtadkimnpeachpaaGreatDoor
open Ev
open Go.RowKit
theorem k4 : chunk (envP Tryz.prog) 10000 (fstC (sndC (sndC (sndC (Tryz.f6.body.getD .skip))))) s3 false s4 = true := by kernel_rfl
theorem k5 : chunk (envP Tryz.prog) 10000 (fstC (sndC (sndC (sndC (sndC (Tryz.f6.body.getD .skip)))))) s4 false s5 = true := by kernel_rfl
theorem k6 : chunk (envP Tryz.prog) 10000 (fstC (sndC (sndC (sndC (sndC (sndC (Tryz.f6.body.getD .skip))))))) s5 false s6 = true := by kernel_rfl
end Go.Proofs.YtadkimnpeachpaaGreatDoor
