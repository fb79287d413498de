/- Layer 9: WordTruth and WordRows. -/
import Derived.Test.YtegkhbakemddhaaWdd
set_option linter.unusedVariables false
set_option maxRecDepth 100000
namespace Go.Proofs.Ytegkhbakemddhaa
open Go.RowKit

set_option maxHeartbeats 1000000 in
theorem truth_10010 (w : World) (a b : Int)
    (H1 : Hid (BinIs 8 a b 1 0)) (H2 : Hid (BinIs 8 b a 0 0)) (H3 : Hid (BinIs 10 a b 0 0)) (H4 : Hid (BinIs 11 a b 1 0)) (H5 : Hid (BinIs 9 a b 1 0))
    (H6 : Hid (BinIs 6 a b 0 0)) (H7 : Hid (UnIs 2 a 1)) (H8 : Hid (UnIs 2 b 0)) (H9 : Hid (BinIs 7 1 0 1 0)) (H10 : Hid (UnIs 2 0 1)) :
    Calls Try.prog 6 #[.int .i64 a, .int .i64 b] w fun e w' => e = .returned (.bool true) ∧ w = w' := by
  go_enter Try.func6, Try.ntmps6
  go_wp2_with (first
    | (go_at_call 8; refine (alive_any _).mono ?_; rintro e w' ⟨rfl, rfl⟩)
    | (go_at_call 9; with_reducible refine (H1.out _).mono ?_; rintro e w' ⟨rfl, rfl⟩)
    | (go_at_call 9; with_reducible refine (H2.out _).mono ?_; rintro e w' ⟨rfl, rfl⟩)
    | (go_at_call 9; with_reducible refine (H3.out _).mono ?_; rintro e w' ⟨rfl, rfl⟩)
    | (go_at_call 9; with_reducible refine (H4.out _).mono ?_; rintro e w' ⟨rfl, rfl⟩)
    | (go_at_call 9; with_reducible refine (H5.out _).mono ?_; rintro e w' ⟨rfl, rfl⟩)
    | (go_at_call 9; with_reducible refine (H6.out _).mono ?_; rintro e w' ⟨rfl, rfl⟩)
    | (go_at_call 9; with_reducible refine (H9.out _).mono ?_; rintro e w' ⟨rfl, rfl⟩)
    | (go_at_call 11; with_reducible refine (H7.out _).mono ?_; rintro e w' ⟨rfl, rfl⟩)
    | (go_at_call 11; with_reducible refine (H8.out _).mono ?_; rintro e w' ⟨rfl, rfl⟩)
    | (go_at_call 11; with_reducible refine (H10.out _).mono ?_; rintro e w' ⟨rfl, rfl⟩))
  go_ret
  exact ⟨rfl, rfl⟩

set_option maxHeartbeats 1000000 in
theorem truth_10001 (w : World) (a b : Int)
    (H1 : Hid (BinIs 8 a b 1 0)) (H2 : Hid (BinIs 8 b a 0 0)) (H3 : Hid (BinIs 10 a b 0 0)) (H4 : Hid (BinIs 11 a b 1 0)) (H5 : Hid (BinIs 9 a b 1 0))
    (H6 : Hid (BinIs 6 a b 0 0)) (H7 : Hid (UnIs 2 a 0)) (H8 : Hid (UnIs 2 b 1)) (H9 : Hid (BinIs 7 0 1 1 0)) (H10 : Hid (UnIs 2 0 1)) :
    Calls Try.prog 6 #[.int .i64 a, .int .i64 b] w fun e w' => e = .returned (.bool true) ∧ w = w' := by
  go_enter Try.func6, Try.ntmps6
  go_wp2_with (first
    | (go_at_call 8; refine (alive_any _).mono ?_; rintro e w' ⟨rfl, rfl⟩)
    | (go_at_call 9; with_reducible refine (H1.out _).mono ?_; rintro e w' ⟨rfl, rfl⟩)
    | (go_at_call 9; with_reducible refine (H2.out _).mono ?_; rintro e w' ⟨rfl, rfl⟩)
    | (go_at_call 9; with_reducible refine (H3.out _).mono ?_; rintro e w' ⟨rfl, rfl⟩)
    | (go_at_call 9; with_reducible refine (H4.out _).mono ?_; rintro e w' ⟨rfl, rfl⟩)
    | (go_at_call 9; with_reducible refine (H5.out _).mono ?_; rintro e w' ⟨rfl, rfl⟩)
    | (go_at_call 9; with_reducible refine (H6.out _).mono ?_; rintro e w' ⟨rfl, rfl⟩)
    | (go_at_call 9; with_reducible refine (H9.out _).mono ?_; rintro e w' ⟨rfl, rfl⟩)
    | (go_at_call 11; with_reducible refine (H7.out _).mono ?_; rintro e w' ⟨rfl, rfl⟩)
    | (go_at_call 11; with_reducible refine (H8.out _).mono ?_; rintro e w' ⟨rfl, rfl⟩)
    | (go_at_call 11; with_reducible refine (H10.out _).mono ?_; rintro e w' ⟨rfl, rfl⟩))
  go_ret
  exact ⟨rfl, rfl⟩

set_option maxHeartbeats 1000000 in
theorem truth_10011 (w : World) (a b : Int)
    (H1 : Hid (BinIs 8 a b 1 0)) (H2 : Hid (BinIs 8 b a 0 0)) (H3 : Hid (BinIs 10 a b 0 0)) (H4 : Hid (BinIs 11 a b 1 0)) (H5 : Hid (BinIs 9 a b 1 0))
    (H6 : Hid (BinIs 6 a b 0 0)) (H7 : Hid (UnIs 2 a 1)) (H8 : Hid (UnIs 2 b 1)) (H9 : Hid (BinIs 7 1 1 1 0)) (H10 : Hid (UnIs 2 0 1)) :
    Calls Try.prog 6 #[.int .i64 a, .int .i64 b] w fun e w' => e = .returned (.bool true) ∧ w = w' := by
  go_enter Try.func6, Try.ntmps6
  go_wp2_with (first
    | (go_at_call 8; refine (alive_any _).mono ?_; rintro e w' ⟨rfl, rfl⟩)
    | (go_at_call 9; with_reducible refine (H1.out _).mono ?_; rintro e w' ⟨rfl, rfl⟩)
    | (go_at_call 9; with_reducible refine (H2.out _).mono ?_; rintro e w' ⟨rfl, rfl⟩)
    | (go_at_call 9; with_reducible refine (H3.out _).mono ?_; rintro e w' ⟨rfl, rfl⟩)
    | (go_at_call 9; with_reducible refine (H4.out _).mono ?_; rintro e w' ⟨rfl, rfl⟩)
    | (go_at_call 9; with_reducible refine (H5.out _).mono ?_; rintro e w' ⟨rfl, rfl⟩)
    | (go_at_call 9; with_reducible refine (H6.out _).mono ?_; rintro e w' ⟨rfl, rfl⟩)
    | (go_at_call 9; with_reducible refine (H9.out _).mono ?_; rintro e w' ⟨rfl, rfl⟩)
    | (go_at_call 11; with_reducible refine (H7.out _).mono ?_; rintro e w' ⟨rfl, rfl⟩)
    | (go_at_call 11; with_reducible refine (H8.out _).mono ?_; rintro e w' ⟨rfl, rfl⟩)
    | (go_at_call 11; with_reducible refine (H10.out _).mono ?_; rintro e w' ⟨rfl, rfl⟩))
  go_ret
  exact ⟨rfl, rfl⟩

set_option maxHeartbeats 1000000 in
theorem truth_10000 (w : World) (a b : Int)
    (H1 : Hid (BinIs 8 a b 1 0)) (H2 : Hid (BinIs 8 b a 0 0)) (H3 : Hid (BinIs 10 a b 0 0)) (H4 : Hid (BinIs 11 a b 1 0)) (H5 : Hid (BinIs 9 a b 1 0))
    (H6 : Hid (BinIs 6 a b 1 0)) (H7 : Hid (UnIs 2 a 0)) (H8 : Hid (UnIs 2 b 0)) (H9 : Hid (BinIs 7 0 0 0 0)) (H10 : Hid (UnIs 2 1 0)) :
    Calls Try.prog 6 #[.int .i64 a, .int .i64 b] w fun e w' => e = .returned (.bool true) ∧ w = w' := by
  go_enter Try.func6, Try.ntmps6
  go_wp2_with (first
    | (go_at_call 8; refine (alive_any _).mono ?_; rintro e w' ⟨rfl, rfl⟩)
    | (go_at_call 9; with_reducible refine (H1.out _).mono ?_; rintro e w' ⟨rfl, rfl⟩)
    | (go_at_call 9; with_reducible refine (H2.out _).mono ?_; rintro e w' ⟨rfl, rfl⟩)
    | (go_at_call 9; with_reducible refine (H3.out _).mono ?_; rintro e w' ⟨rfl, rfl⟩)
    | (go_at_call 9; with_reducible refine (H4.out _).mono ?_; rintro e w' ⟨rfl, rfl⟩)
    | (go_at_call 9; with_reducible refine (H5.out _).mono ?_; rintro e w' ⟨rfl, rfl⟩)
    | (go_at_call 9; with_reducible refine (H6.out _).mono ?_; rintro e w' ⟨rfl, rfl⟩)
    | (go_at_call 9; with_reducible refine (H9.out _).mono ?_; rintro e w' ⟨rfl, rfl⟩)
    | (go_at_call 11; with_reducible refine (H7.out _).mono ?_; rintro e w' ⟨rfl, rfl⟩)
    | (go_at_call 11; with_reducible refine (H8.out _).mono ?_; rintro e w' ⟨rfl, rfl⟩)
    | (go_at_call 11; with_reducible refine (H10.out _).mono ?_; rintro e w' ⟨rfl, rfl⟩))
  go_ret
  exact ⟨rfl, rfl⟩

set_option maxHeartbeats 1000000 in
theorem truth_01010 (w : World) (a b : Int)
    (H1 : Hid (BinIs 8 a b 0 0)) (H2 : Hid (BinIs 8 b a 1 0)) (H3 : Hid (BinIs 10 a b 0 0)) (H4 : Hid (BinIs 11 a b 1 0)) (H5 : Hid (BinIs 9 a b 0 0))
    (H6 : Hid (BinIs 6 a b 0 0)) (H7 : Hid (UnIs 2 a 1)) (H8 : Hid (UnIs 2 b 0)) (H9 : Hid (BinIs 7 1 0 1 0)) (H10 : Hid (UnIs 2 0 1)) :
    Calls Try.prog 6 #[.int .i64 a, .int .i64 b] w fun e w' => e = .returned (.bool true) ∧ w = w' := by
  go_enter Try.func6, Try.ntmps6
  go_wp2_with (first
    | (go_at_call 8; refine (alive_any _).mono ?_; rintro e w' ⟨rfl, rfl⟩)
    | (go_at_call 9; with_reducible refine (H1.out _).mono ?_; rintro e w' ⟨rfl, rfl⟩)
    | (go_at_call 9; with_reducible refine (H2.out _).mono ?_; rintro e w' ⟨rfl, rfl⟩)
    | (go_at_call 9; with_reducible refine (H3.out _).mono ?_; rintro e w' ⟨rfl, rfl⟩)
    | (go_at_call 9; with_reducible refine (H4.out _).mono ?_; rintro e w' ⟨rfl, rfl⟩)
    | (go_at_call 9; with_reducible refine (H5.out _).mono ?_; rintro e w' ⟨rfl, rfl⟩)
    | (go_at_call 9; with_reducible refine (H6.out _).mono ?_; rintro e w' ⟨rfl, rfl⟩)
    | (go_at_call 9; with_reducible refine (H9.out _).mono ?_; rintro e w' ⟨rfl, rfl⟩)
    | (go_at_call 11; with_reducible refine (H7.out _).mono ?_; rintro e w' ⟨rfl, rfl⟩)
    | (go_at_call 11; with_reducible refine (H8.out _).mono ?_; rintro e w' ⟨rfl, rfl⟩)
    | (go_at_call 11; with_reducible refine (H10.out _).mono ?_; rintro e w' ⟨rfl, rfl⟩))
  go_ret
  exact ⟨rfl, rfl⟩

set_option maxHeartbeats 1000000 in
theorem truth_01001 (w : World) (a b : Int)
    (H1 : Hid (BinIs 8 a b 0 0)) (H2 : Hid (BinIs 8 b a 1 0)) (H3 : Hid (BinIs 10 a b 0 0)) (H4 : Hid (BinIs 11 a b 1 0)) (H5 : Hid (BinIs 9 a b 0 0))
    (H6 : Hid (BinIs 6 a b 0 0)) (H7 : Hid (UnIs 2 a 0)) (H8 : Hid (UnIs 2 b 1)) (H9 : Hid (BinIs 7 0 1 1 0)) (H10 : Hid (UnIs 2 0 1)) :
    Calls Try.prog 6 #[.int .i64 a, .int .i64 b] w fun e w' => e = .returned (.bool true) ∧ w = w' := by
  go_enter Try.func6, Try.ntmps6
  go_wp2_with (first
    | (go_at_call 8; refine (alive_any _).mono ?_; rintro e w' ⟨rfl, rfl⟩)
    | (go_at_call 9; with_reducible refine (H1.out _).mono ?_; rintro e w' ⟨rfl, rfl⟩)
    | (go_at_call 9; with_reducible refine (H2.out _).mono ?_; rintro e w' ⟨rfl, rfl⟩)
    | (go_at_call 9; with_reducible refine (H3.out _).mono ?_; rintro e w' ⟨rfl, rfl⟩)
    | (go_at_call 9; with_reducible refine (H4.out _).mono ?_; rintro e w' ⟨rfl, rfl⟩)
    | (go_at_call 9; with_reducible refine (H5.out _).mono ?_; rintro e w' ⟨rfl, rfl⟩)
    | (go_at_call 9; with_reducible refine (H6.out _).mono ?_; rintro e w' ⟨rfl, rfl⟩)
    | (go_at_call 9; with_reducible refine (H9.out _).mono ?_; rintro e w' ⟨rfl, rfl⟩)
    | (go_at_call 11; with_reducible refine (H7.out _).mono ?_; rintro e w' ⟨rfl, rfl⟩)
    | (go_at_call 11; with_reducible refine (H8.out _).mono ?_; rintro e w' ⟨rfl, rfl⟩)
    | (go_at_call 11; with_reducible refine (H10.out _).mono ?_; rintro e w' ⟨rfl, rfl⟩))
  go_ret
  exact ⟨rfl, rfl⟩

set_option maxHeartbeats 1000000 in
theorem truth_01011 (w : World) (a b : Int)
    (H1 : Hid (BinIs 8 a b 0 0)) (H2 : Hid (BinIs 8 b a 1 0)) (H3 : Hid (BinIs 10 a b 0 0)) (H4 : Hid (BinIs 11 a b 1 0)) (H5 : Hid (BinIs 9 a b 0 0))
    (H6 : Hid (BinIs 6 a b 0 0)) (H7 : Hid (UnIs 2 a 1)) (H8 : Hid (UnIs 2 b 1)) (H9 : Hid (BinIs 7 1 1 1 0)) (H10 : Hid (UnIs 2 0 1)) :
    Calls Try.prog 6 #[.int .i64 a, .int .i64 b] w fun e w' => e = .returned (.bool true) ∧ w = w' := by
  go_enter Try.func6, Try.ntmps6
  go_wp2_with (first
    | (go_at_call 8; refine (alive_any _).mono ?_; rintro e w' ⟨rfl, rfl⟩)
    | (go_at_call 9; with_reducible refine (H1.out _).mono ?_; rintro e w' ⟨rfl, rfl⟩)
    | (go_at_call 9; with_reducible refine (H2.out _).mono ?_; rintro e w' ⟨rfl, rfl⟩)
    | (go_at_call 9; with_reducible refine (H3.out _).mono ?_; rintro e w' ⟨rfl, rfl⟩)
    | (go_at_call 9; with_reducible refine (H4.out _).mono ?_; rintro e w' ⟨rfl, rfl⟩)
    | (go_at_call 9; with_reducible refine (H5.out _).mono ?_; rintro e w' ⟨rfl, rfl⟩)
    | (go_at_call 9; with_reducible refine (H6.out _).mono ?_; rintro e w' ⟨rfl, rfl⟩)
    | (go_at_call 9; with_reducible refine (H9.out _).mono ?_; rintro e w' ⟨rfl, rfl⟩)
    | (go_at_call 11; with_reducible refine (H7.out _).mono ?_; rintro e w' ⟨rfl, rfl⟩)
    | (go_at_call 11; with_reducible refine (H8.out _).mono ?_; rintro e w' ⟨rfl, rfl⟩)
    | (go_at_call 11; with_reducible refine (H10.out _).mono ?_; rintro e w' ⟨rfl, rfl⟩))
  go_ret
  exact ⟨rfl, rfl⟩

set_option maxHeartbeats 1000000 in
theorem truth_01000 (w : World) (a b : Int)
    (H1 : Hid (BinIs 8 a b 0 0)) (H2 : Hid (BinIs 8 b a 1 0)) (H3 : Hid (BinIs 10 a b 0 0)) (H4 : Hid (BinIs 11 a b 1 0)) (H5 : Hid (BinIs 9 a b 0 0))
    (H6 : Hid (BinIs 6 a b 1 0)) (H7 : Hid (UnIs 2 a 0)) (H8 : Hid (UnIs 2 b 0)) (H9 : Hid (BinIs 7 0 0 0 0)) (H10 : Hid (UnIs 2 1 0)) :
    Calls Try.prog 6 #[.int .i64 a, .int .i64 b] w fun e w' => e = .returned (.bool true) ∧ w = w' := by
  go_enter Try.func6, Try.ntmps6
  go_wp2_with (first
    | (go_at_call 8; refine (alive_any _).mono ?_; rintro e w' ⟨rfl, rfl⟩)
    | (go_at_call 9; with_reducible refine (H1.out _).mono ?_; rintro e w' ⟨rfl, rfl⟩)
    | (go_at_call 9; with_reducible refine (H2.out _).mono ?_; rintro e w' ⟨rfl, rfl⟩)
    | (go_at_call 9; with_reducible refine (H3.out _).mono ?_; rintro e w' ⟨rfl, rfl⟩)
    | (go_at_call 9; with_reducible refine (H4.out _).mono ?_; rintro e w' ⟨rfl, rfl⟩)
    | (go_at_call 9; with_reducible refine (H5.out _).mono ?_; rintro e w' ⟨rfl, rfl⟩)
    | (go_at_call 9; with_reducible refine (H6.out _).mono ?_; rintro e w' ⟨rfl, rfl⟩)
    | (go_at_call 9; with_reducible refine (H9.out _).mono ?_; rintro e w' ⟨rfl, rfl⟩)
    | (go_at_call 11; with_reducible refine (H7.out _).mono ?_; rintro e w' ⟨rfl, rfl⟩)
    | (go_at_call 11; with_reducible refine (H8.out _).mono ?_; rintro e w' ⟨rfl, rfl⟩)
    | (go_at_call 11; with_reducible refine (H10.out _).mono ?_; rintro e w' ⟨rfl, rfl⟩))
  go_ret
  exact ⟨rfl, rfl⟩

set_option maxHeartbeats 1000000 in
theorem truth_00110 (w : World) (a b : Int)
    (H1 : Hid (BinIs 8 a b 0 0)) (H2 : Hid (BinIs 8 b a 0 0)) (H3 : Hid (BinIs 10 a b 1 0)) (H4 : Hid (BinIs 11 a b 0 0)) (H5 : Hid (BinIs 9 a b 1 0))
    (H6 : Hid (BinIs 6 a b 0 0)) (H7 : Hid (UnIs 2 a 1)) (H8 : Hid (UnIs 2 b 0)) (H9 : Hid (BinIs 7 1 0 1 0)) (H10 : Hid (UnIs 2 0 1)) :
    Calls Try.prog 6 #[.int .i64 a, .int .i64 b] w fun e w' => e = .returned (.bool true) ∧ w = w' := by
  go_enter Try.func6, Try.ntmps6
  go_wp2_with (first
    | (go_at_call 8; refine (alive_any _).mono ?_; rintro e w' ⟨rfl, rfl⟩)
    | (go_at_call 9; with_reducible refine (H1.out _).mono ?_; rintro e w' ⟨rfl, rfl⟩)
    | (go_at_call 9; with_reducible refine (H2.out _).mono ?_; rintro e w' ⟨rfl, rfl⟩)
    | (go_at_call 9; with_reducible refine (H3.out _).mono ?_; rintro e w' ⟨rfl, rfl⟩)
    | (go_at_call 9; with_reducible refine (H4.out _).mono ?_; rintro e w' ⟨rfl, rfl⟩)
    | (go_at_call 9; with_reducible refine (H5.out _).mono ?_; rintro e w' ⟨rfl, rfl⟩)
    | (go_at_call 9; with_reducible refine (H6.out _).mono ?_; rintro e w' ⟨rfl, rfl⟩)
    | (go_at_call 9; with_reducible refine (H9.out _).mono ?_; rintro e w' ⟨rfl, rfl⟩)
    | (go_at_call 11; with_reducible refine (H7.out _).mono ?_; rintro e w' ⟨rfl, rfl⟩)
    | (go_at_call 11; with_reducible refine (H8.out _).mono ?_; rintro e w' ⟨rfl, rfl⟩)
    | (go_at_call 11; with_reducible refine (H10.out _).mono ?_; rintro e w' ⟨rfl, rfl⟩))
  go_ret
  exact ⟨rfl, rfl⟩

set_option maxHeartbeats 1000000 in
theorem truth_00101 (w : World) (a b : Int)
    (H1 : Hid (BinIs 8 a b 0 0)) (H2 : Hid (BinIs 8 b a 0 0)) (H3 : Hid (BinIs 10 a b 1 0)) (H4 : Hid (BinIs 11 a b 0 0)) (H5 : Hid (BinIs 9 a b 1 0))
    (H6 : Hid (BinIs 6 a b 0 0)) (H7 : Hid (UnIs 2 a 0)) (H8 : Hid (UnIs 2 b 1)) (H9 : Hid (BinIs 7 0 1 1 0)) (H10 : Hid (UnIs 2 0 1)) :
    Calls Try.prog 6 #[.int .i64 a, .int .i64 b] w fun e w' => e = .returned (.bool true) ∧ w = w' := by
  go_enter Try.func6, Try.ntmps6
  go_wp2_with (first
    | (go_at_call 8; refine (alive_any _).mono ?_; rintro e w' ⟨rfl, rfl⟩)
    | (go_at_call 9; with_reducible refine (H1.out _).mono ?_; rintro e w' ⟨rfl, rfl⟩)
    | (go_at_call 9; with_reducible refine (H2.out _).mono ?_; rintro e w' ⟨rfl, rfl⟩)
    | (go_at_call 9; with_reducible refine (H3.out _).mono ?_; rintro e w' ⟨rfl, rfl⟩)
    | (go_at_call 9; with_reducible refine (H4.out _).mono ?_; rintro e w' ⟨rfl, rfl⟩)
    | (go_at_call 9; with_reducible refine (H5.out _).mono ?_; rintro e w' ⟨rfl, rfl⟩)
    | (go_at_call 9; with_reducible refine (H6.out _).mono ?_; rintro e w' ⟨rfl, rfl⟩)
    | (go_at_call 9; with_reducible refine (H9.out _).mono ?_; rintro e w' ⟨rfl, rfl⟩)
    | (go_at_call 11; with_reducible refine (H7.out _).mono ?_; rintro e w' ⟨rfl, rfl⟩)
    | (go_at_call 11; with_reducible refine (H8.out _).mono ?_; rintro e w' ⟨rfl, rfl⟩)
    | (go_at_call 11; with_reducible refine (H10.out _).mono ?_; rintro e w' ⟨rfl, rfl⟩))
  go_ret
  exact ⟨rfl, rfl⟩

set_option maxHeartbeats 1000000 in
theorem truth_00111 (w : World) (a b : Int)
    (H1 : Hid (BinIs 8 a b 0 0)) (H2 : Hid (BinIs 8 b a 0 0)) (H3 : Hid (BinIs 10 a b 1 0)) (H4 : Hid (BinIs 11 a b 0 0)) (H5 : Hid (BinIs 9 a b 1 0))
    (H6 : Hid (BinIs 6 a b 0 0)) (H7 : Hid (UnIs 2 a 1)) (H8 : Hid (UnIs 2 b 1)) (H9 : Hid (BinIs 7 1 1 1 0)) (H10 : Hid (UnIs 2 0 1)) :
    Calls Try.prog 6 #[.int .i64 a, .int .i64 b] w fun e w' => e = .returned (.bool true) ∧ w = w' := by
  go_enter Try.func6, Try.ntmps6
  go_wp2_with (first
    | (go_at_call 8; refine (alive_any _).mono ?_; rintro e w' ⟨rfl, rfl⟩)
    | (go_at_call 9; with_reducible refine (H1.out _).mono ?_; rintro e w' ⟨rfl, rfl⟩)
    | (go_at_call 9; with_reducible refine (H2.out _).mono ?_; rintro e w' ⟨rfl, rfl⟩)
    | (go_at_call 9; with_reducible refine (H3.out _).mono ?_; rintro e w' ⟨rfl, rfl⟩)
    | (go_at_call 9; with_reducible refine (H4.out _).mono ?_; rintro e w' ⟨rfl, rfl⟩)
    | (go_at_call 9; with_reducible refine (H5.out _).mono ?_; rintro e w' ⟨rfl, rfl⟩)
    | (go_at_call 9; with_reducible refine (H6.out _).mono ?_; rintro e w' ⟨rfl, rfl⟩)
    | (go_at_call 9; with_reducible refine (H9.out _).mono ?_; rintro e w' ⟨rfl, rfl⟩)
    | (go_at_call 11; with_reducible refine (H7.out _).mono ?_; rintro e w' ⟨rfl, rfl⟩)
    | (go_at_call 11; with_reducible refine (H8.out _).mono ?_; rintro e w' ⟨rfl, rfl⟩)
    | (go_at_call 11; with_reducible refine (H10.out _).mono ?_; rintro e w' ⟨rfl, rfl⟩))
  go_ret
  exact ⟨rfl, rfl⟩

set_option maxHeartbeats 1000000 in
theorem truth_00100 (w : World) (a b : Int)
    (H1 : Hid (BinIs 8 a b 0 0)) (H2 : Hid (BinIs 8 b a 0 0)) (H3 : Hid (BinIs 10 a b 1 0)) (H4 : Hid (BinIs 11 a b 0 0)) (H5 : Hid (BinIs 9 a b 1 0))
    (H6 : Hid (BinIs 6 a b 1 0)) (H7 : Hid (UnIs 2 a 0)) (H8 : Hid (UnIs 2 b 0)) (H9 : Hid (BinIs 7 0 0 0 0)) (H10 : Hid (UnIs 2 1 0)) :
    Calls Try.prog 6 #[.int .i64 a, .int .i64 b] w fun e w' => e = .returned (.bool true) ∧ w = w' := by
  go_enter Try.func6, Try.ntmps6
  go_wp2_with (first
    | (go_at_call 8; refine (alive_any _).mono ?_; rintro e w' ⟨rfl, rfl⟩)
    | (go_at_call 9; with_reducible refine (H1.out _).mono ?_; rintro e w' ⟨rfl, rfl⟩)
    | (go_at_call 9; with_reducible refine (H2.out _).mono ?_; rintro e w' ⟨rfl, rfl⟩)
    | (go_at_call 9; with_reducible refine (H3.out _).mono ?_; rintro e w' ⟨rfl, rfl⟩)
    | (go_at_call 9; with_reducible refine (H4.out _).mono ?_; rintro e w' ⟨rfl, rfl⟩)
    | (go_at_call 9; with_reducible refine (H5.out _).mono ?_; rintro e w' ⟨rfl, rfl⟩)
    | (go_at_call 9; with_reducible refine (H6.out _).mono ?_; rintro e w' ⟨rfl, rfl⟩)
    | (go_at_call 9; with_reducible refine (H9.out _).mono ?_; rintro e w' ⟨rfl, rfl⟩)
    | (go_at_call 11; with_reducible refine (H7.out _).mono ?_; rintro e w' ⟨rfl, rfl⟩)
    | (go_at_call 11; with_reducible refine (H8.out _).mono ?_; rintro e w' ⟨rfl, rfl⟩)
    | (go_at_call 11; with_reducible refine (H10.out _).mono ?_; rintro e w' ⟨rfl, rfl⟩))
  go_ret
  exact ⟨rfl, rfl⟩

theorem tw_t {p : Prop} [Decidable p] (h : p) : tw (decide p) = 1 := by simp [tw, h]
theorem tw_f {p : Prop} [Decidable p] (h : ¬ p) : tw (decide p) = 0 := by simp [tw, h]
theorem tq_t {a b : Int} (h : a = b) : tw (a == b) = 1 := by simp [tw, h]
theorem tq_f {a b : Int} (h : ¬ a = b) : tw (a == b) = 0 := by simp [tw, h]
theorem tn_t {a b : Int} (h : a = b) : tw (!(a == b)) = 0 := by simp [tw, h]
theorem tn_f {a b : Int} (h : ¬ a = b) : tw (!(a == b)) = 1 := by simp [tw, h]
theorem ta_ (a b : Int) (x y : Int) (h : tw (a == 0) = x) (k : tw (b == 0) = y) : tw (!(a == 0) && !(b == 0)) = tw (decide (x = 0 ∧ y = 0)) := by
  subst h; subst k
  by_cases h0 : a = 0 <;> by_cases k0 : b = 0 <;> simp [tw, h0, k0]

theorem truth_walk (w : World) (a b : Int) :
    Calls Try.prog 6 #[.int .i64 a, .int .i64 b] w fun e w' => e = .returned (.bool true) ∧ w = w' := by
  have cmp : (a < b ∧ ¬ b < a ∧ ¬ a = b ∧ a ≤ b) ∨ (¬ a < b ∧ b < a ∧ ¬ a = b ∧ ¬ a ≤ b) ∨ (¬ a < b ∧ ¬ b < a ∧ a = b ∧ a ≤ b) := by omega
  have zo : ∀ c : Int, tw (c == 0) = 0 ∨ tw (c == 0) = 1 := fun c => by
    by_cases h : c = 0
    · exact .inr (tq_t h)
    · exact .inl (tq_f h)
  rcases cmp with ⟨h1, h2, h3, h4⟩ | ⟨h1, h2, h3, h4⟩ | ⟨h1, h2, h3, h4⟩
  · rcases zo a with p | p <;> rcases zo b with q | q
    · exact truth_10000 w a b (Lib.hid (binIs 8 a b (tw_t h1) rfl)) (Lib.hid (binIs 8 b a (tw_f h2) rfl)) (Lib.hid (binIs 10 a b (tq_f h3) rfl)) (Lib.hid (binIs 11 a b (tn_f h3) rfl)) (Lib.hid (binIs 9 a b (tw_t h4) rfl))
        (Lib.hid (binIs 6 a b ((ta_ a b _ _ p q).trans rfl) rfl)) (Lib.hid (unIs 2 a p rfl)) (Lib.hid (unIs 2 b q rfl)) (Lib.hid (binIs 7 0 0 rfl rfl)) (Lib.hid (unIs 2 1 rfl rfl))
    · exact truth_10001 w a b (Lib.hid (binIs 8 a b (tw_t h1) rfl)) (Lib.hid (binIs 8 b a (tw_f h2) rfl)) (Lib.hid (binIs 10 a b (tq_f h3) rfl)) (Lib.hid (binIs 11 a b (tn_f h3) rfl)) (Lib.hid (binIs 9 a b (tw_t h4) rfl))
        (Lib.hid (binIs 6 a b ((ta_ a b _ _ p q).trans rfl) rfl)) (Lib.hid (unIs 2 a p rfl)) (Lib.hid (unIs 2 b q rfl)) (Lib.hid (binIs 7 0 1 rfl rfl)) (Lib.hid (unIs 2 0 rfl rfl))
    · exact truth_10010 w a b (Lib.hid (binIs 8 a b (tw_t h1) rfl)) (Lib.hid (binIs 8 b a (tw_f h2) rfl)) (Lib.hid (binIs 10 a b (tq_f h3) rfl)) (Lib.hid (binIs 11 a b (tn_f h3) rfl)) (Lib.hid (binIs 9 a b (tw_t h4) rfl))
        (Lib.hid (binIs 6 a b ((ta_ a b _ _ p q).trans rfl) rfl)) (Lib.hid (unIs 2 a p rfl)) (Lib.hid (unIs 2 b q rfl)) (Lib.hid (binIs 7 1 0 rfl rfl)) (Lib.hid (unIs 2 0 rfl rfl))
    · exact truth_10011 w a b (Lib.hid (binIs 8 a b (tw_t h1) rfl)) (Lib.hid (binIs 8 b a (tw_f h2) rfl)) (Lib.hid (binIs 10 a b (tq_f h3) rfl)) (Lib.hid (binIs 11 a b (tn_f h3) rfl)) (Lib.hid (binIs 9 a b (tw_t h4) rfl))
        (Lib.hid (binIs 6 a b ((ta_ a b _ _ p q).trans rfl) rfl)) (Lib.hid (unIs 2 a p rfl)) (Lib.hid (unIs 2 b q rfl)) (Lib.hid (binIs 7 1 1 rfl rfl)) (Lib.hid (unIs 2 0 rfl rfl))
  · rcases zo a with p | p <;> rcases zo b with q | q
    · exact truth_01000 w a b (Lib.hid (binIs 8 a b (tw_f h1) rfl)) (Lib.hid (binIs 8 b a (tw_t h2) rfl)) (Lib.hid (binIs 10 a b (tq_f h3) rfl)) (Lib.hid (binIs 11 a b (tn_f h3) rfl)) (Lib.hid (binIs 9 a b (tw_f h4) rfl))
        (Lib.hid (binIs 6 a b ((ta_ a b _ _ p q).trans rfl) rfl)) (Lib.hid (unIs 2 a p rfl)) (Lib.hid (unIs 2 b q rfl)) (Lib.hid (binIs 7 0 0 rfl rfl)) (Lib.hid (unIs 2 1 rfl rfl))
    · exact truth_01001 w a b (Lib.hid (binIs 8 a b (tw_f h1) rfl)) (Lib.hid (binIs 8 b a (tw_t h2) rfl)) (Lib.hid (binIs 10 a b (tq_f h3) rfl)) (Lib.hid (binIs 11 a b (tn_f h3) rfl)) (Lib.hid (binIs 9 a b (tw_f h4) rfl))
        (Lib.hid (binIs 6 a b ((ta_ a b _ _ p q).trans rfl) rfl)) (Lib.hid (unIs 2 a p rfl)) (Lib.hid (unIs 2 b q rfl)) (Lib.hid (binIs 7 0 1 rfl rfl)) (Lib.hid (unIs 2 0 rfl rfl))
    · exact truth_01010 w a b (Lib.hid (binIs 8 a b (tw_f h1) rfl)) (Lib.hid (binIs 8 b a (tw_t h2) rfl)) (Lib.hid (binIs 10 a b (tq_f h3) rfl)) (Lib.hid (binIs 11 a b (tn_f h3) rfl)) (Lib.hid (binIs 9 a b (tw_f h4) rfl))
        (Lib.hid (binIs 6 a b ((ta_ a b _ _ p q).trans rfl) rfl)) (Lib.hid (unIs 2 a p rfl)) (Lib.hid (unIs 2 b q rfl)) (Lib.hid (binIs 7 1 0 rfl rfl)) (Lib.hid (unIs 2 0 rfl rfl))
    · exact truth_01011 w a b (Lib.hid (binIs 8 a b (tw_f h1) rfl)) (Lib.hid (binIs 8 b a (tw_t h2) rfl)) (Lib.hid (binIs 10 a b (tq_f h3) rfl)) (Lib.hid (binIs 11 a b (tn_f h3) rfl)) (Lib.hid (binIs 9 a b (tw_f h4) rfl))
        (Lib.hid (binIs 6 a b ((ta_ a b _ _ p q).trans rfl) rfl)) (Lib.hid (unIs 2 a p rfl)) (Lib.hid (unIs 2 b q rfl)) (Lib.hid (binIs 7 1 1 rfl rfl)) (Lib.hid (unIs 2 0 rfl rfl))
  · rcases zo a with p | p <;> rcases zo b with q | q
    · exact truth_00100 w a b (Lib.hid (binIs 8 a b (tw_f h1) rfl)) (Lib.hid (binIs 8 b a (tw_f h2) rfl)) (Lib.hid (binIs 10 a b (tq_t h3) rfl)) (Lib.hid (binIs 11 a b (tn_t h3) rfl)) (Lib.hid (binIs 9 a b (tw_t h4) rfl))
        (Lib.hid (binIs 6 a b ((ta_ a b _ _ p q).trans rfl) rfl)) (Lib.hid (unIs 2 a p rfl)) (Lib.hid (unIs 2 b q rfl)) (Lib.hid (binIs 7 0 0 rfl rfl)) (Lib.hid (unIs 2 1 rfl rfl))
    · exact truth_00101 w a b (Lib.hid (binIs 8 a b (tw_f h1) rfl)) (Lib.hid (binIs 8 b a (tw_f h2) rfl)) (Lib.hid (binIs 10 a b (tq_t h3) rfl)) (Lib.hid (binIs 11 a b (tn_t h3) rfl)) (Lib.hid (binIs 9 a b (tw_t h4) rfl))
        (Lib.hid (binIs 6 a b ((ta_ a b _ _ p q).trans rfl) rfl)) (Lib.hid (unIs 2 a p rfl)) (Lib.hid (unIs 2 b q rfl)) (Lib.hid (binIs 7 0 1 rfl rfl)) (Lib.hid (unIs 2 0 rfl rfl))
    · exact truth_00110 w a b (Lib.hid (binIs 8 a b (tw_f h1) rfl)) (Lib.hid (binIs 8 b a (tw_f h2) rfl)) (Lib.hid (binIs 10 a b (tq_t h3) rfl)) (Lib.hid (binIs 11 a b (tn_t h3) rfl)) (Lib.hid (binIs 9 a b (tw_t h4) rfl))
        (Lib.hid (binIs 6 a b ((ta_ a b _ _ p q).trans rfl) rfl)) (Lib.hid (unIs 2 a p rfl)) (Lib.hid (unIs 2 b q rfl)) (Lib.hid (binIs 7 1 0 rfl rfl)) (Lib.hid (unIs 2 0 rfl rfl))
    · exact truth_00111 w a b (Lib.hid (binIs 8 a b (tw_f h1) rfl)) (Lib.hid (binIs 8 b a (tw_f h2) rfl)) (Lib.hid (binIs 10 a b (tq_t h3) rfl)) (Lib.hid (binIs 11 a b (tn_t h3) rfl)) (Lib.hid (binIs 9 a b (tw_t h4) rfl))
        (Lib.hid (binIs 6 a b ((ta_ a b _ _ p q).trans rfl) rfl)) (Lib.hid (unIs 2 a p rfl)) (Lib.hid (unIs 2 b q rfl)) (Lib.hid (binIs 7 1 1 rfl rfl)) (Lib.hid (unIs 2 0 rfl rfl))

set_option maxHeartbeats 1000000 in
theorem rows_000 (w : World) (a b c : Int) (s t u x y z : Int)
    (H1 : Hid (BinIs 8 a b 0 0)) (H2 : Hid (BinIs 8 b c 0 0)) (H3 : Hid (BinIs 8 a c 0 0))
    (H4 : Hid (BinIs 1 a b s 0)) (H5 : Hid (BinIs 1 s c t 0)) (H6 : Hid (BinIs 1 b c u 0)) (H7 : Hid (BinIs 1 a u t 0)) (H8 : Hid (BinIs 3 a u x 0)) (H9 : Hid (BinIs 3 a b y 0)) (H10 : Hid (BinIs 3 a c z 0)) (H11 : Hid (BinIs 1 y z x 0)) :
    Calls Try.prog 7 #[.int .i64 a, .int .i64 b, .int .i64 c] w fun e w' => e = .returned (.bool true) ∧ w = w' := by
  go_enter Try.func7, Try.ntmps7
  go_wp2_with (first
    | (go_at_call 8; refine (alive_any _).mono ?_; rintro e w' ⟨rfl, rfl⟩)
    | (go_at_call 9; with_reducible refine (H1.out _).mono ?_; rintro e w' ⟨rfl, rfl⟩)
    | (go_at_call 9; with_reducible refine (H2.out _).mono ?_; rintro e w' ⟨rfl, rfl⟩)
    | (go_at_call 9; with_reducible refine (H3.out _).mono ?_; rintro e w' ⟨rfl, rfl⟩)
    | (go_at_call 9; with_reducible refine (H4.out _).mono ?_; rintro e w' ⟨rfl, rfl⟩)
    | (go_at_call 9; with_reducible refine (H5.out _).mono ?_; rintro e w' ⟨rfl, rfl⟩)
    | (go_at_call 9; with_reducible refine (H6.out _).mono ?_; rintro e w' ⟨rfl, rfl⟩)
    | (go_at_call 9; with_reducible refine (H7.out _).mono ?_; rintro e w' ⟨rfl, rfl⟩)
    | (go_at_call 9; with_reducible refine (H8.out _).mono ?_; rintro e w' ⟨rfl, rfl⟩)
    | (go_at_call 9; with_reducible refine (H9.out _).mono ?_; rintro e w' ⟨rfl, rfl⟩)
    | (go_at_call 9; with_reducible refine (H10.out _).mono ?_; rintro e w' ⟨rfl, rfl⟩)
    | (go_at_call 9; with_reducible refine (H11.out _).mono ?_; rintro e w' ⟨rfl, rfl⟩))
  go_ret
  exact ⟨rfl, rfl⟩

set_option maxHeartbeats 1000000 in
theorem rows_001 (w : World) (a b c : Int) (s t u x y z : Int)
    (H1 : Hid (BinIs 8 a b 0 0)) (H2 : Hid (BinIs 8 b c 0 0)) (H3 : Hid (BinIs 8 a c 1 0))
    (H4 : Hid (BinIs 1 a b s 0)) (H5 : Hid (BinIs 1 s c t 0)) (H6 : Hid (BinIs 1 b c u 0)) (H7 : Hid (BinIs 1 a u t 0)) (H8 : Hid (BinIs 3 a u x 0)) (H9 : Hid (BinIs 3 a b y 0)) (H10 : Hid (BinIs 3 a c z 0)) (H11 : Hid (BinIs 1 y z x 0)) :
    Calls Try.prog 7 #[.int .i64 a, .int .i64 b, .int .i64 c] w fun e w' => e = .returned (.bool true) ∧ w = w' := by
  go_enter Try.func7, Try.ntmps7
  go_wp2_with (first
    | (go_at_call 8; refine (alive_any _).mono ?_; rintro e w' ⟨rfl, rfl⟩)
    | (go_at_call 9; with_reducible refine (H1.out _).mono ?_; rintro e w' ⟨rfl, rfl⟩)
    | (go_at_call 9; with_reducible refine (H2.out _).mono ?_; rintro e w' ⟨rfl, rfl⟩)
    | (go_at_call 9; with_reducible refine (H3.out _).mono ?_; rintro e w' ⟨rfl, rfl⟩)
    | (go_at_call 9; with_reducible refine (H4.out _).mono ?_; rintro e w' ⟨rfl, rfl⟩)
    | (go_at_call 9; with_reducible refine (H5.out _).mono ?_; rintro e w' ⟨rfl, rfl⟩)
    | (go_at_call 9; with_reducible refine (H6.out _).mono ?_; rintro e w' ⟨rfl, rfl⟩)
    | (go_at_call 9; with_reducible refine (H7.out _).mono ?_; rintro e w' ⟨rfl, rfl⟩)
    | (go_at_call 9; with_reducible refine (H8.out _).mono ?_; rintro e w' ⟨rfl, rfl⟩)
    | (go_at_call 9; with_reducible refine (H9.out _).mono ?_; rintro e w' ⟨rfl, rfl⟩)
    | (go_at_call 9; with_reducible refine (H10.out _).mono ?_; rintro e w' ⟨rfl, rfl⟩)
    | (go_at_call 9; with_reducible refine (H11.out _).mono ?_; rintro e w' ⟨rfl, rfl⟩))
  go_ret
  exact ⟨rfl, rfl⟩

set_option maxHeartbeats 1000000 in
theorem rows_010 (w : World) (a b c : Int) (s t u x y z : Int)
    (H1 : Hid (BinIs 8 a b 0 0)) (H2 : Hid (BinIs 8 b c 1 0)) (H3 : Hid (BinIs 8 a c 0 0))
    (H4 : Hid (BinIs 1 a b s 0)) (H5 : Hid (BinIs 1 s c t 0)) (H6 : Hid (BinIs 1 b c u 0)) (H7 : Hid (BinIs 1 a u t 0)) (H8 : Hid (BinIs 3 a u x 0)) (H9 : Hid (BinIs 3 a b y 0)) (H10 : Hid (BinIs 3 a c z 0)) (H11 : Hid (BinIs 1 y z x 0)) :
    Calls Try.prog 7 #[.int .i64 a, .int .i64 b, .int .i64 c] w fun e w' => e = .returned (.bool true) ∧ w = w' := by
  go_enter Try.func7, Try.ntmps7
  go_wp2_with (first
    | (go_at_call 8; refine (alive_any _).mono ?_; rintro e w' ⟨rfl, rfl⟩)
    | (go_at_call 9; with_reducible refine (H1.out _).mono ?_; rintro e w' ⟨rfl, rfl⟩)
    | (go_at_call 9; with_reducible refine (H2.out _).mono ?_; rintro e w' ⟨rfl, rfl⟩)
    | (go_at_call 9; with_reducible refine (H3.out _).mono ?_; rintro e w' ⟨rfl, rfl⟩)
    | (go_at_call 9; with_reducible refine (H4.out _).mono ?_; rintro e w' ⟨rfl, rfl⟩)
    | (go_at_call 9; with_reducible refine (H5.out _).mono ?_; rintro e w' ⟨rfl, rfl⟩)
    | (go_at_call 9; with_reducible refine (H6.out _).mono ?_; rintro e w' ⟨rfl, rfl⟩)
    | (go_at_call 9; with_reducible refine (H7.out _).mono ?_; rintro e w' ⟨rfl, rfl⟩)
    | (go_at_call 9; with_reducible refine (H8.out _).mono ?_; rintro e w' ⟨rfl, rfl⟩)
    | (go_at_call 9; with_reducible refine (H9.out _).mono ?_; rintro e w' ⟨rfl, rfl⟩)
    | (go_at_call 9; with_reducible refine (H10.out _).mono ?_; rintro e w' ⟨rfl, rfl⟩)
    | (go_at_call 9; with_reducible refine (H11.out _).mono ?_; rintro e w' ⟨rfl, rfl⟩))
  go_ret
  exact ⟨rfl, rfl⟩

set_option maxHeartbeats 1000000 in
theorem rows_011 (w : World) (a b c : Int) (s t u x y z : Int)
    (H1 : Hid (BinIs 8 a b 0 0)) (H2 : Hid (BinIs 8 b c 1 0)) (H3 : Hid (BinIs 8 a c 1 0))
    (H4 : Hid (BinIs 1 a b s 0)) (H5 : Hid (BinIs 1 s c t 0)) (H6 : Hid (BinIs 1 b c u 0)) (H7 : Hid (BinIs 1 a u t 0)) (H8 : Hid (BinIs 3 a u x 0)) (H9 : Hid (BinIs 3 a b y 0)) (H10 : Hid (BinIs 3 a c z 0)) (H11 : Hid (BinIs 1 y z x 0)) :
    Calls Try.prog 7 #[.int .i64 a, .int .i64 b, .int .i64 c] w fun e w' => e = .returned (.bool true) ∧ w = w' := by
  go_enter Try.func7, Try.ntmps7
  go_wp2_with (first
    | (go_at_call 8; refine (alive_any _).mono ?_; rintro e w' ⟨rfl, rfl⟩)
    | (go_at_call 9; with_reducible refine (H1.out _).mono ?_; rintro e w' ⟨rfl, rfl⟩)
    | (go_at_call 9; with_reducible refine (H2.out _).mono ?_; rintro e w' ⟨rfl, rfl⟩)
    | (go_at_call 9; with_reducible refine (H3.out _).mono ?_; rintro e w' ⟨rfl, rfl⟩)
    | (go_at_call 9; with_reducible refine (H4.out _).mono ?_; rintro e w' ⟨rfl, rfl⟩)
    | (go_at_call 9; with_reducible refine (H5.out _).mono ?_; rintro e w' ⟨rfl, rfl⟩)
    | (go_at_call 9; with_reducible refine (H6.out _).mono ?_; rintro e w' ⟨rfl, rfl⟩)
    | (go_at_call 9; with_reducible refine (H7.out _).mono ?_; rintro e w' ⟨rfl, rfl⟩)
    | (go_at_call 9; with_reducible refine (H8.out _).mono ?_; rintro e w' ⟨rfl, rfl⟩)
    | (go_at_call 9; with_reducible refine (H9.out _).mono ?_; rintro e w' ⟨rfl, rfl⟩)
    | (go_at_call 9; with_reducible refine (H10.out _).mono ?_; rintro e w' ⟨rfl, rfl⟩)
    | (go_at_call 9; with_reducible refine (H11.out _).mono ?_; rintro e w' ⟨rfl, rfl⟩))
  go_ret
  exact ⟨rfl, rfl⟩

set_option maxHeartbeats 1000000 in
theorem rows_100 (w : World) (a b c : Int) (s t u x y z : Int)
    (H1 : Hid (BinIs 8 a b 1 0)) (H2 : Hid (BinIs 8 b c 0 0)) (H3 : Hid (BinIs 8 a c 0 0))
    (H4 : Hid (BinIs 1 a b s 0)) (H5 : Hid (BinIs 1 s c t 0)) (H6 : Hid (BinIs 1 b c u 0)) (H7 : Hid (BinIs 1 a u t 0)) (H8 : Hid (BinIs 3 a u x 0)) (H9 : Hid (BinIs 3 a b y 0)) (H10 : Hid (BinIs 3 a c z 0)) (H11 : Hid (BinIs 1 y z x 0)) :
    Calls Try.prog 7 #[.int .i64 a, .int .i64 b, .int .i64 c] w fun e w' => e = .returned (.bool true) ∧ w = w' := by
  go_enter Try.func7, Try.ntmps7
  go_wp2_with (first
    | (go_at_call 8; refine (alive_any _).mono ?_; rintro e w' ⟨rfl, rfl⟩)
    | (go_at_call 9; with_reducible refine (H1.out _).mono ?_; rintro e w' ⟨rfl, rfl⟩)
    | (go_at_call 9; with_reducible refine (H2.out _).mono ?_; rintro e w' ⟨rfl, rfl⟩)
    | (go_at_call 9; with_reducible refine (H3.out _).mono ?_; rintro e w' ⟨rfl, rfl⟩)
    | (go_at_call 9; with_reducible refine (H4.out _).mono ?_; rintro e w' ⟨rfl, rfl⟩)
    | (go_at_call 9; with_reducible refine (H5.out _).mono ?_; rintro e w' ⟨rfl, rfl⟩)
    | (go_at_call 9; with_reducible refine (H6.out _).mono ?_; rintro e w' ⟨rfl, rfl⟩)
    | (go_at_call 9; with_reducible refine (H7.out _).mono ?_; rintro e w' ⟨rfl, rfl⟩)
    | (go_at_call 9; with_reducible refine (H8.out _).mono ?_; rintro e w' ⟨rfl, rfl⟩)
    | (go_at_call 9; with_reducible refine (H9.out _).mono ?_; rintro e w' ⟨rfl, rfl⟩)
    | (go_at_call 9; with_reducible refine (H10.out _).mono ?_; rintro e w' ⟨rfl, rfl⟩)
    | (go_at_call 9; with_reducible refine (H11.out _).mono ?_; rintro e w' ⟨rfl, rfl⟩))
  go_ret
  exact ⟨rfl, rfl⟩

set_option maxHeartbeats 1000000 in
theorem rows_101 (w : World) (a b c : Int) (s t u x y z : Int)
    (H1 : Hid (BinIs 8 a b 1 0)) (H2 : Hid (BinIs 8 b c 0 0)) (H3 : Hid (BinIs 8 a c 1 0))
    (H4 : Hid (BinIs 1 a b s 0)) (H5 : Hid (BinIs 1 s c t 0)) (H6 : Hid (BinIs 1 b c u 0)) (H7 : Hid (BinIs 1 a u t 0)) (H8 : Hid (BinIs 3 a u x 0)) (H9 : Hid (BinIs 3 a b y 0)) (H10 : Hid (BinIs 3 a c z 0)) (H11 : Hid (BinIs 1 y z x 0)) :
    Calls Try.prog 7 #[.int .i64 a, .int .i64 b, .int .i64 c] w fun e w' => e = .returned (.bool true) ∧ w = w' := by
  go_enter Try.func7, Try.ntmps7
  go_wp2_with (first
    | (go_at_call 8; refine (alive_any _).mono ?_; rintro e w' ⟨rfl, rfl⟩)
    | (go_at_call 9; with_reducible refine (H1.out _).mono ?_; rintro e w' ⟨rfl, rfl⟩)
    | (go_at_call 9; with_reducible refine (H2.out _).mono ?_; rintro e w' ⟨rfl, rfl⟩)
    | (go_at_call 9; with_reducible refine (H3.out _).mono ?_; rintro e w' ⟨rfl, rfl⟩)
    | (go_at_call 9; with_reducible refine (H4.out _).mono ?_; rintro e w' ⟨rfl, rfl⟩)
    | (go_at_call 9; with_reducible refine (H5.out _).mono ?_; rintro e w' ⟨rfl, rfl⟩)
    | (go_at_call 9; with_reducible refine (H6.out _).mono ?_; rintro e w' ⟨rfl, rfl⟩)
    | (go_at_call 9; with_reducible refine (H7.out _).mono ?_; rintro e w' ⟨rfl, rfl⟩)
    | (go_at_call 9; with_reducible refine (H8.out _).mono ?_; rintro e w' ⟨rfl, rfl⟩)
    | (go_at_call 9; with_reducible refine (H9.out _).mono ?_; rintro e w' ⟨rfl, rfl⟩)
    | (go_at_call 9; with_reducible refine (H10.out _).mono ?_; rintro e w' ⟨rfl, rfl⟩)
    | (go_at_call 9; with_reducible refine (H11.out _).mono ?_; rintro e w' ⟨rfl, rfl⟩))
  go_ret
  exact ⟨rfl, rfl⟩

set_option maxHeartbeats 1000000 in
theorem rows_111 (w : World) (a b c : Int) (s t u x y z : Int)
    (H1 : Hid (BinIs 8 a b 1 0)) (H2 : Hid (BinIs 8 b c 1 0)) (H3 : Hid (BinIs 8 a c 1 0))
    (H4 : Hid (BinIs 1 a b s 0)) (H5 : Hid (BinIs 1 s c t 0)) (H6 : Hid (BinIs 1 b c u 0)) (H7 : Hid (BinIs 1 a u t 0)) (H8 : Hid (BinIs 3 a u x 0)) (H9 : Hid (BinIs 3 a b y 0)) (H10 : Hid (BinIs 3 a c z 0)) (H11 : Hid (BinIs 1 y z x 0)) :
    Calls Try.prog 7 #[.int .i64 a, .int .i64 b, .int .i64 c] w fun e w' => e = .returned (.bool true) ∧ w = w' := by
  go_enter Try.func7, Try.ntmps7
  go_wp2_with (first
    | (go_at_call 8; refine (alive_any _).mono ?_; rintro e w' ⟨rfl, rfl⟩)
    | (go_at_call 9; with_reducible refine (H1.out _).mono ?_; rintro e w' ⟨rfl, rfl⟩)
    | (go_at_call 9; with_reducible refine (H2.out _).mono ?_; rintro e w' ⟨rfl, rfl⟩)
    | (go_at_call 9; with_reducible refine (H3.out _).mono ?_; rintro e w' ⟨rfl, rfl⟩)
    | (go_at_call 9; with_reducible refine (H4.out _).mono ?_; rintro e w' ⟨rfl, rfl⟩)
    | (go_at_call 9; with_reducible refine (H5.out _).mono ?_; rintro e w' ⟨rfl, rfl⟩)
    | (go_at_call 9; with_reducible refine (H6.out _).mono ?_; rintro e w' ⟨rfl, rfl⟩)
    | (go_at_call 9; with_reducible refine (H7.out _).mono ?_; rintro e w' ⟨rfl, rfl⟩)
    | (go_at_call 9; with_reducible refine (H8.out _).mono ?_; rintro e w' ⟨rfl, rfl⟩)
    | (go_at_call 9; with_reducible refine (H9.out _).mono ?_; rintro e w' ⟨rfl, rfl⟩)
    | (go_at_call 9; with_reducible refine (H10.out _).mono ?_; rintro e w' ⟨rfl, rfl⟩)
    | (go_at_call 9; with_reducible refine (H11.out _).mono ?_; rintro e w' ⟨rfl, rfl⟩))
  go_ret
  exact ⟨rfl, rfl⟩

theorem rows_walk (w : World) (a b c : Int) :
    Calls Try.prog 7 #[.int .i64 a, .int .i64 b, .int .i64 c] w fun e w' => e = .returned (.bool true) ∧ w = w' := by
  have K4 := Lib.hid (binIs 1 a b (x := wrap64 (a + b)) rfl rfl)
  have K5 := Lib.hid (binIs 1 (wrap64 (a + b)) c (x := wrap64 (a + b + c)) (by show wrap64 (wrap64 (a + b) + c) = _; rw [wr_l]) rfl)
  have K6 := Lib.hid (binIs 1 b c (x := wrap64 (b + c)) rfl rfl)
  have K7 := Lib.hid (binIs 1 a (wrap64 (b + c)) (x := wrap64 (a + b + c)) (by show wrap64 (a + wrap64 (b + c)) = _; rw [wr_r, Int.add_assoc]) rfl)
  have K8 := Lib.hid (binIs 3 a (wrap64 (b + c)) (x := wrap64 (a * (b + c))) (by show wrap64 (a * wrap64 (b + c)) = _; rw [wr_mr]) rfl)
  have K9 := Lib.hid (binIs 3 a b (x := wrap64 (a * b)) rfl rfl)
  have K10 := Lib.hid (binIs 3 a c (x := wrap64 (a * c)) rfl rfl)
  have K11 := Lib.hid (binIs 1 (wrap64 (a * b)) (wrap64 (a * c)) (x := wrap64 (a * (b + c))) (by show wrap64 (wrap64 (a * b) + wrap64 (a * c)) = _; rw [wr_l, wr_r, Int.mul_add]) rfl)
  by_cases h1 : a < b <;> by_cases h2 : b < c <;> by_cases h3 : a < c
  · exact rows_111 w a b c _ _ _ _ _ _ (Lib.hid (binIs 8 a b (tw_t h1) rfl)) (Lib.hid (binIs 8 b c (tw_t h2) rfl)) (Lib.hid (binIs 8 a c (tw_t h3) rfl)) K4 K5 K6 K7 K8 K9 K10 K11
  · omega
  · exact rows_101 w a b c _ _ _ _ _ _ (Lib.hid (binIs 8 a b (tw_t h1) rfl)) (Lib.hid (binIs 8 b c (tw_f h2) rfl)) (Lib.hid (binIs 8 a c (tw_t h3) rfl)) K4 K5 K6 K7 K8 K9 K10 K11
  · exact rows_100 w a b c _ _ _ _ _ _ (Lib.hid (binIs 8 a b (tw_t h1) rfl)) (Lib.hid (binIs 8 b c (tw_f h2) rfl)) (Lib.hid (binIs 8 a c (tw_f h3) rfl)) K4 K5 K6 K7 K8 K9 K10 K11
  · exact rows_011 w a b c _ _ _ _ _ _ (Lib.hid (binIs 8 a b (tw_f h1) rfl)) (Lib.hid (binIs 8 b c (tw_t h2) rfl)) (Lib.hid (binIs 8 a c (tw_t h3) rfl)) K4 K5 K6 K7 K8 K9 K10 K11
  · exact rows_010 w a b c _ _ _ _ _ _ (Lib.hid (binIs 8 a b (tw_f h1) rfl)) (Lib.hid (binIs 8 b c (tw_t h2) rfl)) (Lib.hid (binIs 8 a c (tw_f h3) rfl)) K4 K5 K6 K7 K8 K9 K10 K11
  · exact rows_001 w a b c _ _ _ _ _ _ (Lib.hid (binIs 8 a b (tw_f h1) rfl)) (Lib.hid (binIs 8 b c (tw_f h2) rfl)) (Lib.hid (binIs 8 a c (tw_t h3) rfl)) K4 K5 K6 K7 K8 K9 K10 K11
  · exact rows_000 w a b c _ _ _ _ _ _ (Lib.hid (binIs 8 a b (tw_f h1) rfl)) (Lib.hid (binIs 8 b c (tw_f h2) rfl)) (Lib.hid (binIs 8 a c (tw_f h3) rfl)) K4 K5 K6 K7 K8 K9 K10 K11

end Go.Proofs.Ytegkhbakemddhaa
