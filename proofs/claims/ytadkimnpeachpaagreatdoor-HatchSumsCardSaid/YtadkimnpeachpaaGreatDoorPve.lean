/- Layer 8: an input's value; what lies where a hatch is valued. -/
import Derived.Test.YtadkimnpeachpaaGreatDoorPvc
set_option linter.unusedVariables false
set_option linter.unusedSimpArgs false
namespace Go.Proofs.YtadkimnpeachpaaGreatDoor
open Go.RowKit

theorem inV_no {nms : List (List UInt8)} {xs : List Int} {s : List UInt8} (h : nms.idxOf? s = none) : inV nms xs s = 0 := by unfold inV; rw [h]
theorem inV_at {nms : List (List UInt8)} {xs : List Int} {s : List UInt8} {j : Nat} (h : nms.idxOf? s = some j) (hj : j < xs.length) : inV nms xs s = xs[j] := by
  unfold inV; rw [h]; show xs[j]?.getD 0 = _; rw [List.getElem?_eq_getElem hj]; rfl
theorem inV_out {nms : List (List UInt8)} {xs : List Int} {s : List UInt8} {j : Nat} (h : nms.idxOf? s = some j) (hj : xs.length ≤ j) : inV nms xs s = 0 := by
  unfold inV; rw [h]; show xs[j]?.getD 0 = _; rw [List.getElem?_eq_none hj]; rfl

/-- where what is valued lies: the names, the inputs, how many parts are left -/
def VBox (w : World) (g : Nat) (nv iv : Value) (left : Int) : Prop := w.heap[g]? = some (.cells #[nv, iv, .int .i64 left] 63 (0, 0))
theorem VBox.cells {w : World} {g : Nat} {nv iv : Value} {left : Int} (h : VBox w g nv iv left) : w.cell? ⟨g, 0, none⟩ = some nv ∧ w.cell? ⟨g, 1, none⟩ = some iv ∧ w.cell? ⟨g, 2, none⟩ = some (.int .i64 left) := by
  refine ⟨?_, ?_, ?_⟩
  all_goals rw [cell_of_row w _ _ _ _ (0, 0) h]; rfl
theorem VBox.fr {w : World} {g : Nat} {nv iv : Value} {left : Int} (h : VBox w g nv iv left) : w.frozen? ⟨g, 2, none⟩ = false := frozen_of_row w g 2 _ _ h
theorem VBox.lt {w : World} {g : Nat} {nv iv : Value} {left : Int} (h : VBox w g nv iv left) : g < w.heap.size := heap_lt h

set_option maxHeartbeats 1000000 in
theorem input_any {w : World} {S S' : Nat → Prop} {nms : List (List UInt8)} {xs : List Int} {nv iv : Value} {left : Int} {g : Nat} (hg : VBox w g nv iv left) (hn : Lies KT w S nms nv) (hi : Lies KI w S' xs iv) (s : List UInt8) :
    Calls Tryz.prog 37 #[.pointer (some ⟨g, 0, none⟩), .string (strOf s)] w fun e w' => e = .returned (.int .i64 (inV nms xs s)) ∧ w' = w := by
  have HSI := Lib.hid (sindex_any hn s)
  obtain ⟨A, c, rfl, hc, hM⟩ := hn.form
  obtain ⟨A', c', rfl, hc', hM'⟩ := hi.form
  obtain ⟨c0, c1, -⟩ := hg.cells
  obtain ⟨N, hN⟩ : ∃ N, N = strOf s := ⟨_, rfl⟩
  rw [← hN] at HSI ⊢
  rcases idxV_way nms s with ⟨h1, h2⟩ | ⟨j, h1, h2⟩
  · rw [inV_no h2]
    rw [h1] at HSI
    clear h1 h2 hN hg hn hi
    go_enter Tryz.func37, Tryz.ntmps37
    go_wp2_with (first
      | ((with_reducible refine HSI.out.mono ?_); rintro e w1 ⟨rfl, rfl⟩))
    go_ret
    exact ⟨rfl, rfl⟩
  · rw [h1] at HSI
    by_cases hj : j < xs.length
    · obtain ⟨b, off, rfl, -, r0, -⟩ := hi.int j hj
      rw [inV_at h2 hj]
      obtain ⟨x, hx⟩ : ∃ x, x = xs[j] := ⟨_, rfl⟩
      obtain ⟨m, hm⟩ : ∃ m, m = xs.length := ⟨_, rfl⟩
      rw [← hx] at r0 ⊢
      rw [← hm] at c1 hj hc' hM'
      have hlt : ¬ (m : Int) ≤ (j : Int) := by omega
      have hge : ¬ (j : Int) < 0 := by omega
      have hjm : (j : Int) < (m : Int) := by omega
      clear h1 h2 hN hg hn hi hx hm
      go_enter Tryz.func37, Tryz.ntmps37
      go_wp2_with (first
        | ((with_reducible refine HSI.out.mono ?_); rintro e w1 ⟨rfl, rfl⟩))
      go_ret
      exact ⟨rfl, rfl⟩
    · rw [inV_out h2 (by omega)]
      obtain ⟨m, hm⟩ : ∃ m, m = xs.length := ⟨_, rfl⟩
      rw [← hm] at c1 hj hc' hM'
      have hlt : (m : Int) ≤ (j : Int) := by omega
      have hge : ¬ (j : Int) < 0 := by omega
      clear h1 h2 hN hg hn hi hm
      go_enter Tryz.func37, Tryz.ntmps37
      go_wp2_with (first
        | ((with_reducible refine HSI.out.mono ?_); rintro e w1 ⟨rfl, rfl⟩))
      go_ret
      exact ⟨rfl, rfl⟩

end Go.Proofs.YtadkimnpeachpaaGreatDoor
