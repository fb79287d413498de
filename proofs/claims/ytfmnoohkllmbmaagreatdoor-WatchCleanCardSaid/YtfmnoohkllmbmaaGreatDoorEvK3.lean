/- alive of portcullislaw16: some of its parts. -/
import Derived.Test.YtfmnoohkllmbmaaGreatDoorEvKz
set_option maxRecDepth 1000000
set_option linter.unusedVariables false
namespace Go.Proofs.YtfmnoohkllmbmaaGreatDoor
open Ev
open Go.RowKit
theorem k9 : chunk (envP Tryz.prog) 10000 (fstC (sndC (sndC (sndC (sndC (sndC (sndC (sndC (sndC (Tryz.f4.body.getD .skip)))))))))) s8 false s9 = true := by kernel_rfl
theorem k10 : chunk (envP Tryz.prog) 10000 (fstC (sndC (sndC (sndC (sndC (sndC (sndC (sndC (sndC (sndC (Tryz.f4.body.getD .skip))))))))))) s9 false s10 = true := by kernel_rfl
theorem k11 : chunk (envP Tryz.prog) 10000 (sndC (sndC (sndC (sndC (sndC (sndC (sndC (sndC (sndC (sndC (Tryz.f4.body.getD .skip))))))))))) s10 true s11 = true := by kernel_rfl
end Go.Proofs.YtfmnoohkllmbmaaGreatDoor
