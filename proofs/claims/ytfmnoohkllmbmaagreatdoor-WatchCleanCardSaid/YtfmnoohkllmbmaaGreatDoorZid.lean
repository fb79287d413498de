/- Deferred closures of functions that return: they recover nothing. -/
import Derived.Test.YtfmnoohkllmbmaaGreatDoorRows
import Derived.Recover
import Derived.Tactics2
import Derived.Lib.Hide
set_option linter.unusedVariables false
set_option linter.unusedSimpArgs false
namespace Go.Proofs.YtfmnoohkllmbmaaGreatDoor
open Go.RowKit

theorem zi_assertM (w : World) : (Instr.typeAssert .nilIface 20 253 true).run Tryz.prog w = .ok (.tuple #[.int .i64 0, .bool false]) w := by kernel_rfl
theorem zi_tmpsM (a x : Value) : #[a] ++ ((Array.replicate 14 undef).setIfInBounds 3 x).setIfInBounds 0 x = #[a, x, undef, undef, x, undef, undef, undef, undef, undef, undef, undef, undef, undef, undef] := by kernel_rfl
set_option maxHeartbeats 2000000 in
theorem zi_done (a : Value) (w : World) :
    CallsD Tryz.prog 137 #[a] .returning w fun e u' w' => e = .returned (.tuple #[]) ∧ u' = .returning ∧ Below w.heap.size w w' := by
  refine callsD_of_wpS Tryz.func137 rfl fun c₀ cs hu => ?_
  have h1 := zi_assertM
  have h2 : ∀ w : World, (binOp .neq 20 .nilIface .nilIface).run Tryz.prog w = .ok (.bool false) w := fun _ => by kernel_rfl
  have HB := Lib.hid (Below.refl w.heap.size w)
  apply wpS_seq
  apply wpS_region
  simp [wpOpsS, go_sem, recoverD, hu, Tryz.ntmps137, Exit.thenS]
  refine wpS_of_wp ?_
  rw [zi_tmpsM]
  go_wp2
  clear h1 h2
  cases c₀
  simp_all [bodyPostS, results, Tryz.results137]
  exact HB.out
end Go.Proofs.YtfmnoohkllmbmaaGreatDoor
