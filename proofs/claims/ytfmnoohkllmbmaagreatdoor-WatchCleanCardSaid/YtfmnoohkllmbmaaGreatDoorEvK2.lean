/- alive of portcullislaw16: some of its parts. -/
import Derived.Test.YtfmnoohkllmbmaaGreatDoorEvKz
set_option maxRecDepth 1000000
set_option linter.unusedVariables false
namespace Go.Proofs.YtfmnoohkllmbmaaGreatDoor
open Ev
open Go.RowKit
theorem k5 : chunk (envP Tryz.prog) 10000 (fstC (sndC (sndC (sndC (sndC (Tryz.f4.body.getD .skip)))))) s4 false s5 = true := by kernel_rfl
theorem k6 : chunk (envP Tryz.prog) 10000 (fstC (sndC (sndC (sndC (sndC (sndC (Tryz.f4.body.getD .skip))))))) s5 false s6 = true := by kernel_rfl
theorem k7 : chunk (envP Tryz.prog) 10000 (fstC (sndC (sndC (sndC (sndC (sndC (sndC (Tryz.f4.body.getD .skip)))))))) s6 false s7 = true := by kernel_rfl
theorem k8 : chunk (envP Tryz.prog) 10000 (fstC (sndC (sndC (sndC (sndC (sndC (sndC (sndC (Tryz.f4.body.getD .skip))))))))) s7 false s8 = true := by kernel_rfl
end Go.Proofs.YtfmnoohkllmbmaaGreatDoor
