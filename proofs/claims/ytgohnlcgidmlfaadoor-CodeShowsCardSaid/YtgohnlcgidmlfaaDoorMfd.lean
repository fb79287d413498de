/- Rows of laws over code: the argument, opened. -/
import Derived.Test.YtgohnlcgidmlfaaDoorMet
import Derived.Test.YtgohnlcgidmlfaaDoorRo
set_option linter.unusedVariables false
set_option maxRecDepth 100000
namespace Go.Proofs.YtgohnlcgidmlfaaDoor
open Go.RowKit Go.ChangeShapes Go.WideShapes

theorem opens_mod {H : Type} {enc : TypeId × Value → H} {w : World} {base : Nat} {spare : Nat → Bool} {held : Bool} {v : Value} {d : DataW H} {ps : List MemPlace}
    (h : DataW.Trod enc Tryd.prog w base spare held 27 v d ps) (hv : ∃ u : Vm, v = .agg u.arr) (hwt : ∀ y ∈ DataW.weights Tryd.prog 27 d, y ≤ 140737488355328) : ∃ m u, v = .agg u.arr ∧ IsMo w (· < w.heap.size) m u := by
  obtain ⟨u, rfl⟩ := hv
  obtain ⟨fuel, h⟩ := h
  have hc : (Value.agg u.arr).cells.toList = u.arr.toList := by simp [Value.cells]
  rw [hc] at h
  obtain ⟨m, u', e, hm⟩ := open_mod fuel _ _ rfl h hwt
  refine ⟨m, u, rfl, ?_⟩
  have : u' = u := by
    cases u; cases u'
    simp [Vm.arr] at e
    simp [e]
  rw [← this]
  exact hm
theorem weights_one {H : Type} {P : Program} {t : TypeId} {d : DataW H} {ts : List TypeId} {l : List (DataW H)} {y : Nat} (hts : ts = [t]) (hl : l = [d]) (hy : y ∈ DataW.weights P t d) : y ∈ DataW.weightsEach P ts l := by
  subst hts hl
  simp [DataW.weightsEach, hy]
theorem weights_three {H : Type} {P : Program} {t t1 t2 : TypeId} {d d1 d2 : DataW H} {ts : List TypeId} {l : List (DataW H)} {y : Nat} (hts : ts = [t, t1, t2]) (hl : l = [d, d1, d2]) (hy : y ∈ DataW.weights P t d) : y ∈ DataW.weightsEach P ts l := by
  subst hts hl
  simp [DataW.weightsEach, hy]
theorem weights_four {H : Type} {P : Program} {t t1 t2 t3 : TypeId} {d d1 d2 d3 : DataW H} {ts : List TypeId} {l : List (DataW H)} {y : Nat} (hts : ts = [t, t1, t2, t3]) (hl : l = [d, d1, d2, d3]) (hy : y ∈ DataW.weights P t d) : y ∈ DataW.weightsEach P ts l := by
  subst hts hl
  simp [DataW.weightsEach, hy]
theorem weight_le {x : Nat} (h : x ≤ reachBytes) : x ≤ 140737488355328 := by unfold reachBytes at h; omega

end Go.Proofs.YtgohnlcgidmlfaaDoor
