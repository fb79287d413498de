/- The walk of LexNames. -/
import Derived.Test.YtofodbaiehifjaaRh
set_option linter.unusedVariables false
namespace Go.Proofs.Ytofodbaiehifjaa
open Go.RowKit

def TruePost (w : World) (e : Ending) (w' : World) : Prop := e = .returned (.bool true) ∧ Below w.heap.size w w'

theorem keep_below {P : Program} {F : FuncId} {args : Array Value} {w : World} {v : Value} (c : ∀ wx, Calls P F args wx fun e w' => e = .returned v ∧ Below wx.heap.size wx w') :
    ∀ wx, Below w.heap.size w wx → Calls P F args wx fun e w' => e = .returned v ∧ Below w.heap.size w w' :=
  fun wx h => (c wx).mono fun e w' ⟨h1, h2⟩ => ⟨h1, h.trans (h2.mono h.size)⟩

theorem names_walk (w : World) (s : ByteArray) : Calls Try.prog 4 #[.string s] w (TruePost w) := by
  have d1 := keep_below (w := w) (v := .bool true) fun wx => name_any ⟨#[97]⟩ wx (by decide)
  have d2 : ∀ w, Calls Try.prog 14 #[.string ⟨#[105, 102]⟩] w fun e w' => e = .returned (.bool true) ∧ w = w' := fun w => word_any ⟨#[105, 102]⟩ w
  have d3 := keep_below (w := w) (v := .bool false) fun wx => name_any ⟨#[105, 102]⟩ wx (by decide)
  have hb0 : Below w.heap.size w w := Below.refl _ _
  by_cases hs : s.size ≤ 5000
  · obtain ⟨b1, hb1⟩ : ∃ b, b = isWord s.data.toList := ⟨_, rfl⟩
    obtain ⟨b2, hb2⟩ : ∃ b, b = nameB s.data.toList := ⟨_, rfl⟩
    have c1 : ∀ w, Calls Try.prog 14 #[.string s] w fun e w' => e = .returned (.bool b1) ∧ w = w' := fun w => by rw [hb1]; exact word_any s w
    have c2 := keep_below (w := w) (v := .bool b1) fun wx => by rw [hb1]; exact rword_any s wx
    have c3 := keep_below (w := w) (v := .bool b2) fun wx => by rw [hb2]; exact name_any s wx (by omega)
    have c4 := keep_below (w := w) (v := .bool b2) fun wx => by rw [hb2]; exact rname_any s wx (by omega)
    have hbb : b1 = true → b2 = false := fun h => by
      rw [hb2, name_said, ← hb1, h]; simp
    clear hb1 hb2
    have D1 := Lib.hid d1
    have D2 := Lib.hid d2
    have D3 := Lib.hid d3
    have C1 := Lib.hid c1
    have C2 := Lib.hid c2
    have C3 := Lib.hid c3
    have C4 := Lib.hid c4
    clear d1 d2 d3 c1 c2 c3 c4
    cases b1
    · cases b2
      all_goals
        clear hbb
        go_enter Try.func4, Try.ntmps4
        go_wp2_with (first
          | ((with_reducible refine (D1.out _ (by assumption)).mono ?_); rintro e w1 ⟨rfl, hb1⟩)
          | ((with_reducible refine (D2.out _).mono ?_); rintro e w1 ⟨rfl, rfl⟩)
          | ((with_reducible refine (D3.out _ (by assumption)).mono ?_); rintro e w2 ⟨rfl, hb2⟩)
          | ((with_reducible refine (C1.out _).mono ?_); rintro e w1 ⟨rfl, rfl⟩)
          | ((with_reducible refine (C2.out _ (by assumption)).mono ?_); rintro e w3 ⟨rfl, hb3⟩)
          | ((with_reducible refine (C3.out _ (by assumption)).mono ?_); rintro e w4 ⟨rfl, hb4⟩)
          | ((with_reducible refine (C4.out _ (by assumption)).mono ?_); rintro e w5 ⟨rfl, hb5⟩))
        go_ret
        exact ⟨rfl, by assumption⟩
    · obtain rfl := hbb rfl
      clear hbb
      go_enter Try.func4, Try.ntmps4
      go_wp2_with (first
        | ((with_reducible refine (D1.out _ (by assumption)).mono ?_); rintro e w1 ⟨rfl, hb1⟩)
        | ((with_reducible refine (D2.out _).mono ?_); rintro e w1 ⟨rfl, rfl⟩)
        | ((with_reducible refine (D3.out _ (by assumption)).mono ?_); rintro e w2 ⟨rfl, hb2⟩)
        | ((with_reducible refine (C1.out _).mono ?_); rintro e w1 ⟨rfl, rfl⟩)
        | ((with_reducible refine (C2.out _ (by assumption)).mono ?_); rintro e w3 ⟨rfl, hb3⟩)
        | ((with_reducible refine (C3.out _ (by assumption)).mono ?_); rintro e w4 ⟨rfl, hb4⟩)
        | ((with_reducible refine (C4.out _ (by assumption)).mono ?_); rintro e w5 ⟨rfl, hb5⟩))
      go_ret
      exact ⟨rfl, by assumption⟩
  · have D1 := Lib.hid d1
    have D2 := Lib.hid d2
    have D3 := Lib.hid d3
    clear d1 d2 d3
    go_enter Try.func4, Try.ntmps4
    go_wp2_with (first
      | ((with_reducible refine (D1.out _ (by assumption)).mono ?_); rintro e w1 ⟨rfl, hb1⟩)
      | ((with_reducible refine (D2.out _).mono ?_); rintro e w1 ⟨rfl, rfl⟩)
      | ((with_reducible refine (D3.out _ (by assumption)).mono ?_); rintro e w2 ⟨rfl, hb2⟩))
    go_ret
    exact ⟨rfl, by assumption⟩

end Go.Proofs.Ytofodbaiehifjaa
