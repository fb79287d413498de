/- Layer 9: WordAnswers. -/
import Derived.Test.YtegkhbakemddhaaWdc
set_option linter.unusedVariables false
set_option maxRecDepth 100000
namespace Go.Proofs.Ytegkhbakemddhaa
open Go.RowKit

set_option maxHeartbeats 1000000 in
theorem answers_main (w : World) (k a b x e u : Int) (q : Bool) (H1 : Hid (BinIs k a b x e))
    (H2 : Hid (∀ wx, Calls Try.prog 10 #[.int .i64 k, .int .i64 a, .int .i64 b] wx fun r w' => r = .returned (.tuple #[.int .i64 x, .int .i64 e]) ∧ wx = w'))
    (H3 : Hid (∀ wx, Calls Try.prog 11 #[.int .i64 k, .int .i64 a] wx fun r w' => r = .returned (.tuple #[.int .i64 u, .bool q]) ∧ wx = w'))
    (H4 : Hid (∀ wx, Calls Try.prog 12 #[.int .i64 k, .int .i64 a] wx fun r w' => r = .returned (.tuple #[.int .i64 u, .bool q]) ∧ wx = w')) :
    Calls Try.prog 3 #[.int .i64 k, .int .i64 a, .int .i64 b] w fun e w' => e = .returned (.bool true) ∧ w = w' := by
  go_enter Try.func3, Try.ntmps3
  go_wp2_with (first
    | (go_at_call 8; refine (alive_any _).mono ?_; rintro e w' ⟨rfl, rfl⟩)
    | (go_at_call 9; with_reducible refine (H1.out _).mono ?_; rintro e w' ⟨rfl, rfl⟩)
    | (go_at_call 10; with_reducible refine (H2.out _).mono ?_; rintro e w' ⟨rfl, rfl⟩)
    | (go_at_call 11; with_reducible refine (H3.out _).mono ?_; rintro e w' ⟨rfl, rfl⟩)
    | (go_at_call 12; with_reducible refine (H4.out _).mono ?_; rintro e w' ⟨rfl, rfl⟩))
  go_ret
  cases q <;> exact ⟨rfl, rfl⟩

theorem answers_walk (w : World) (k a b : Int) :
    Calls Try.prog 3 #[.int .i64 k, .int .i64 a, .int .i64 b] w fun e w' => e = .returned (.bool true) ∧ w = w' :=
  answers_main w k a b (bw k a b) (be k b) (uw k a) (ub k) (Lib.hid (binIs k a b rfl rfl)) (Lib.hid (rbinary_any k a b)) (Lib.hid (unary_any k a)) (Lib.hid (runary_any k a))

end Go.Proofs.Ytegkhbakemddhaa
