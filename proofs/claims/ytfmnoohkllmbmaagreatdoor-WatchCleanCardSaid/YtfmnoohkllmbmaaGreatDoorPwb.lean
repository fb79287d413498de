/- What was seen of a machine, out of a row's argument. -/
import Derived.Test.YtfmnoohkllmbmaaGreatDoorRows
import Derived.WideShapes
set_option linter.unusedVariables false
set_option maxRecDepth 100000
namespace Go.Proofs.YtfmnoohkllmbmaaGreatDoor
open Go Go.WideShapes

theorem seen_types : Tryz.prog.cellTypes Tryz.prog.depth 25 = some [22, 23, 23, 4, 4] := by kernel_rfl
theorem cell_slice {P : Program} {w : World} {r : Reach} {base : Nat} {t e : TypeId} {v : Value} (ht : P.underlying t = some (.slice e)) (h : Cell.okWide P w r base t v) : ∃ a n c, v = .slice a n c :=
  okWide_slice ht (by unfold Value.okWide; rw [ht]; exact h)
theorem cell_bool {P : Program} {w : World} {r : Reach} {base : Nat} {t : TypeId} {v : Value} (ht : P.underlying t = some .bool) (h : Cell.okWide P w r base t v) : ∃ b, v = .bool b :=
  okWide_bool ht (by unfold Value.okWide; rw [ht]; exact h)
theorem seen_agg {W : World} {r : Reach} {base : Nat} {v : Value} (h : Value.okWide Tryz.prog W r base 25 v) :
    ∃ A n c A' n' c' A'' n'' c'' b b', v = .agg #[.slice A n c, .slice A' n' c', .slice A'' n'' c'', .bool b, .bool b'] := by
  unfold Value.okWide at h
  rw [Tryz.underlying25] at h
  obtain ⟨cs, rfl, hs, ts, hts, -, hc⟩ := h
  rw [seen_types] at hts
  cases hts
  rw [show Tryz.prog.cellsOf 25 = 5 from by kernel_rfl] at hs
  match cs, hs with
  | ⟨[x0, x1, x2, x3, x4]⟩, _ =>
    obtain ⟨u0, e0, h0⟩ := hc 0 x0 rfl
    obtain ⟨u1, e1, h1⟩ := hc 1 x1 rfl
    obtain ⟨u2, e2, h2⟩ := hc 2 x2 rfl
    obtain ⟨u3, e3, h3⟩ := hc 3 x3 rfl
    obtain ⟨u4, e4, h4⟩ := hc 4 x4 rfl
    cases e0; cases e1; cases e2; cases e3; cases e4
    obtain ⟨A, n, c, rfl⟩ := cell_slice Tryz.underlying22 h0
    obtain ⟨A', n', c', rfl⟩ := cell_slice Tryz.underlying23 h1
    obtain ⟨A'', n'', c'', rfl⟩ := cell_slice Tryz.underlying23 h2
    obtain ⟨b, rfl⟩ := cell_bool Tryz.underlying4 h3
    obtain ⟨b', rfl⟩ := cell_bool Tryz.underlying4 h4
    exact ⟨A, n, c, A', n', c', A'', n'', c'', b, b', rfl⟩

end Go.Proofs.YtfmnoohkllmbmaaGreatDoor
