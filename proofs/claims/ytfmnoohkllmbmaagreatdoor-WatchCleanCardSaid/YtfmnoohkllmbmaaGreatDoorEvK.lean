/- alive of portcullislaw16 answers true. -/
import Derived.Test.YtfmnoohkllmbmaaGreatDoorEvK1
import Derived.Test.YtfmnoohkllmbmaaGreatDoorEvK2
import Derived.Test.YtfmnoohkllmbmaaGreatDoorEvK3
set_option maxRecDepth 1000000
set_option linter.unusedVariables false
namespace Go.Proofs.YtfmnoohkllmbmaaGreatDoor
open Ev
open Go.RowKit
theorem alive_body : Tryz.f4.body = some (Tryz.f4.body.getD .skip) := by kernel_rfl
theorem alive_runs : Runs Tryz.prog (envP Tryz.prog) (Tryz.f4.body.getD .skip) s0 .ret s11 := (Runs.seq (by kernel_rfl) (Runs.of env_ok fns_ok k1) (Runs.seq (by kernel_rfl) (Runs.of env_ok fns_ok k2) (Runs.seq (by kernel_rfl) (Runs.of env_ok fns_ok k3) (Runs.seq (by kernel_rfl) (Runs.of env_ok fns_ok k4) (Runs.seq (by kernel_rfl) (Runs.of env_ok fns_ok k5) (Runs.seq (by kernel_rfl) (Runs.of env_ok fns_ok k6) (Runs.seq (by kernel_rfl) (Runs.of env_ok fns_ok k7) (Runs.seq (by kernel_rfl) (Runs.of env_ok fns_ok k8) (Runs.seq (by kernel_rfl) (Runs.of env_ok fns_ok k9) (Runs.seq (by kernel_rfl) (Runs.of env_ok fns_ok k10) (Runs.of env_ok fns_ok k11)))))))))))
theorem alive_any (w : World) : Calls Tryz.prog 4 #[] w fun e w' => e = .returned (.bool true) ∧ Below w.heap.size w w' :=
  Runs.closed env_ok fns_ok (fun g b h => by cases h) Tryz.func4 alive_body (by kernel_rfl) (nx := 0) rfl alive_runs rfl (by kernel_rfl) w
end Go.Proofs.YtfmnoohkllmbmaaGreatDoor
