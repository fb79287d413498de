/- alive of portcullislaw08 answers true. -/
import Derived.Test.YtadkimnpeachpaaGreatDoorEhK1
import Derived.Test.YtadkimnpeachpaaGreatDoorEhK2
import Derived.Test.YtadkimnpeachpaaGreatDoorEhK3
set_option maxRecDepth 1000000
set_option linter.unusedVariables false
namespace Go.Proofs.YtadkimnpeachpaaGreatDoor
open Ev
open Go.RowKit
theorem alive_body : Tryz.f6.body = some (Tryz.f6.body.getD .skip) := by kernel_rfl
theorem alive_runs : Runs Tryz.prog (envP Tryz.prog) (Tryz.f6.body.getD .skip) s0 .ret s8 := (Runs.seq (by kernel_rfl) (Runs.of env_ok fns_ok k1) (Runs.seq (by kernel_rfl) (Runs.of env_ok fns_ok k2) (Runs.seq (by kernel_rfl) (Runs.of env_ok fns_ok k3) (Runs.seq (by kernel_rfl) (Runs.of env_ok fns_ok k4) (Runs.seq (by kernel_rfl) (Runs.of env_ok fns_ok k5) (Runs.seq (by kernel_rfl) (Runs.of env_ok fns_ok k6) (Runs.seq (by kernel_rfl) (Runs.of env_ok fns_ok k7) (Runs.of env_ok fns_ok k8))))))))
theorem alive_any (w : World) : Calls Tryz.prog 6 #[] w fun e w' => e = .returned (.bool true) ∧ Below w.heap.size w w' :=
  Runs.closed env_ok fns_ok (fun g b h => by cases h) Tryz.func6 alive_body (by kernel_rfl) (nx := 0) rfl alive_runs rfl (by kernel_rfl) w
end Go.Proofs.YtadkimnpeachpaaGreatDoor
