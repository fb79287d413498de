/- Layer 9: alive, and the walks of the laws on numbers. -/
import Derived.Test.YtegkhbakemddhaaWda
import Derived.Test.YtegkhbakemddhaaWdb
set_option linter.unusedVariables false
set_option maxRecDepth 100000
namespace Go.Proofs.Ytegkhbakemddhaa
open Go.RowKit

/-- what a call of Binary answers, wherever it is made -/
abbrev BinIs (k a b x e : Int) : Prop := ∀ wx, Calls Try.prog 9 #[.int .i64 k, .int .i64 a, .int .i64 b] wx fun r w' => r = .returned (.tuple #[.int .i64 x, .int .i64 e]) ∧ wx = w'
theorem binIs (k a b : Int) {x e : Int} (hx : bw k a b = x) (he : be k b = e) : BinIs k a b x e := fun wx => by rw [← hx, ← he]; exact binary_any k a b wx
/-- what a call of Unary answers -/
abbrev UnIs (k a x : Int) : Prop := ∀ wx, Calls Try.prog 11 #[.int .i64 k, .int .i64 a] wx fun r w' => r = .returned (.tuple #[.int .i64 x, .bool true]) ∧ wx = w'
theorem unIs (k a : Int) {x : Int} (hx : uw k a = x) (hk : ub k = true) : UnIs k a x := fun wx => by rw [← hx, ← hk]; exact unary_any k a wx

set_option maxHeartbeats 400000 in
theorem alive_any (w : World) :
    Calls Try.prog 8 #[] w fun e w' => e = .returned (.bool true) ∧ w = w' := by
  have H1 := Lib.hid (binIs 4 (-7) 2 (x := -3) (e := 0) (by decide +kernel) (by decide +kernel))
  have H2 := Lib.hid (binIs 5 1 0 (x := 0) (e := 1) (by decide +kernel) (by decide +kernel))
  have H3 := Lib.hid (unIs 2 0 (x := 1) (by decide +kernel) (by decide +kernel))
  have h4 : ∀ wx, Calls Try.prog 13 #[.string ⟨#[60, 61]⟩, .int .i64 2] wx fun e w' => e = .returned (.int .i64 9) ∧ wx = w' := fun wx => by
    have hs : sg (⟨#[60, 61]⟩ : ByteArray).toList 2 = 9 := by rw [Lib.toList_data]; decide +kernel
    rw [← hs]; exact sign_any ⟨#[60, 61]⟩ 2 wx
  have H4 := Lib.hid h4
  clear h4
  go_enter Try.func8, Try.ntmps8
  go_wp2_with (first
    | (go_at_call 9; with_reducible refine (H1.out _).mono ?_; rintro e w' ⟨rfl, rfl⟩)
    | (go_at_call 9; with_reducible refine (H2.out _).mono ?_; rintro e w' ⟨rfl, rfl⟩)
    | (go_at_call 11; with_reducible refine (H3.out _).mono ?_; rintro e w' ⟨rfl, rfl⟩)
    | (go_at_call 13; with_reducible refine (H4.out _).mono ?_; rintro e w' ⟨rfl, rfl⟩))
  go_ret
  exact ⟨rfl, rfl⟩

end Go.Proofs.Ytegkhbakemddhaa
