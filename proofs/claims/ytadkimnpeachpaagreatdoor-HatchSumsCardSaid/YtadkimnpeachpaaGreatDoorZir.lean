/- Deferred closures of functions that return: they recover nothing. -/
import Derived.Test.YtadkimnpeachpaaGreatDoorRows
import Derived.Recover
import Derived.Tactics2
import Derived.Lib.Hide
set_option linter.unusedVariables false
set_option linter.unusedSimpArgs false
namespace Go.Proofs.YtadkimnpeachpaaGreatDoor
open Go.RowKit

theorem zi_new (w : World) (o : Obj) : Below w.heap.size w (w.alloc o) := (Below.refl _ w).alloc (Nat.le_refl _) _
theorem zi_assertP (w : World) : (Instr.typeAssert .nilIface 20 104 true).run Tryz.prog w = .ok (.tuple #[.agg #[.int .i64 0, .int .i64 0], .bool false]) w := by kernel_rfl
theorem zi_tmps (a b x : Value) : #[a, b] ++ ((Array.replicate 17 undef).setIfInBounds 3 x).setIfInBounds 0 x = #[a, b, x, undef, undef, x, undef, undef, undef, undef, undef, undef, undef, undef, undef, undef, undef, undef, undef] := by kernel_rfl
set_option maxHeartbeats 2000000 in
theorem zi_read (a b : Value) (w : World) :
    CallsD Tryz.prog 40 #[a, b] .returning w fun e u' w' => e = .returned (.tuple #[]) ∧ u' = .returning ∧ Below w.heap.size w w' := by
  refine callsD_of_wpS Tryz.func40 rfl fun c₀ cs hu => ?_
  have h1 := zi_assertP
  have h2 : ∀ w : World, (binOp .neq 20 .nilIface .nilIface).run Tryz.prog w = .ok (.bool false) w := fun _ => by kernel_rfl
  have HB := Lib.hid (((zi_new w (.cells #[.int .i64 0, .int .i64 0] 104)).setCell (p := ⟨w.heap.size, 0, none⟩) (Nat.le_refl _) (.int .i64 0)).setCell (p := ⟨w.heap.size, 1, none⟩) (Nat.le_refl _) (.int .i64 0))
  apply wpS_seq
  apply wpS_region
  simp [wpOpsS, go_sem, recoverD, hu, Tryz.ntmps40, Exit.thenS]
  refine wpS_of_wp ?_
  rw [zi_tmps]
  go_wp2
  clear h1 h2
  cases c₀
  simp_all [bodyPostS, results, Tryz.results40]
  exact HB.out

end Go.Proofs.YtadkimnpeachpaaGreatDoor
