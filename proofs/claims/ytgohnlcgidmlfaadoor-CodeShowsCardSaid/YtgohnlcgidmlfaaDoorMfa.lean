/- The walk of alive. -/
import Derived.Test.YtgohnlcgidmlfaaDoorMez
import Derived.Test.YtgohnlcgidmlfaaDoorMet
set_option linter.unusedVariables false
set_option linter.unusedSimpArgs false
set_option maxRecDepth 100000
namespace Go.Proofs.YtgohnlcgidmlfaaDoor
open Go.RowKit

theorem haltsAt_below {w w' : World} {B p q r : Nat} {a : Int} (h : HaltsAt w p q r a) (hb : Below B w w') (hp : p < B) (hq : q < B) (hr : r < B) : HaltsAt w' p q r a := ⟨(hb.block p hp).trans h.ops, (hb.block q hq).trans h.fns, (hb.block r hr).trans h.ths⟩
theorem nmW_below {w w' : World} (h : NmW w) (hg : 0 < w.heap.size) (hb : Below w.heap.size w w') : NmW w' := fun k hk => (World.cell?_of_block (hb.block _ hg)).trans (h k hk)
theorem nmW_lt {w : World} (h : NmW w) : 0 < w.heap.size := by
  have h0 := h 0 (by omega)
  rcases Nat.lt_or_ge 0 w.heap.size with h1 | h1
  · exact h1
  · simp [World.cell?, Array.getElem?_eq_none h1] at h0
/-- what a call of the document's own code answers, at any world that holds it -/
theorem halts_show {w : World} {p q r : Nat} (h : HaltsAt w p q r 0) (hp : p < w.heap.size) (hq : q < w.heap.size) (hr : r < w.heap.size) (hn : NmW w) (ht : TbW w) : Calls Tryd.prog 18 #[.agg (haltsV q r).arr] w fun e w' => e = .returned (.tuple #[.string (bs [102, 117, 110, 99, 32, 48, 32, 48, 32, 48, 32, 48, 10, 48, 32, 114, 101, 116, 117, 114, 110, 32, 48, 32, 48, 32, 48, 32, 48, 32, 48, 32, 48, 32, 48, 10]), .int .i64 0]) ∧ Below w.heap.size w w' := by
  have := show_any (h.mo ⟨by omega, by omega⟩ hp hq hr) hn ht
  rw [halts_shown, if_pos halts_right] at this
  exact this
theorem halts_right0 {w : World} {p q r : Nat} (h : HaltsAt w p q r 0) (hp : p < w.heap.size) (hq : q < w.heap.size) (hr : r < w.heap.size) : Calls Tryd.prog 11 #[.agg (haltsV q r).arr] w fun e w' => e = .returned (.bool true) ∧ Below w.heap.size w w' := by
  have := right_any (h.mo ⟨by omega, by omega⟩ hp hq hr)
  rw [halts_right] at this
  exact this
theorem halts_right1 {w : World} {p q r : Nat} (h : HaltsAt w p q r 1) (hp : p < w.heap.size) (hq : q < w.heap.size) (hr : r < w.heap.size) : Calls Tryd.prog 11 #[.agg (haltsV q r).arr] w fun e w' => e = .returned (.bool false) ∧ Below w.heap.size w w' := by
  have := right_any (h.mo ⟨by omega, by omega⟩ hp hq hr)
  rw [halts_wrong] at this
  exact this
theorem halts_size0 {w : World} {p q r : Nat} (h : HaltsAt w p q r 0) (hp : p < w.heap.size) (hq : q < w.heap.size) (hr : r < w.heap.size) : Calls Tryd.prog 15 #[.agg (haltsV q r).arr] w fun e w' => e = .returned (.int .i64 1) ∧ Below w.heap.size w w' := by
  have := sizeR_any (h.mo ⟨by omega, by omega⟩ hp hq hr)
  rw [if_pos halts_right, halts_size] at this
  exact this
theorem halts_words0 {w : World} {p q r : Nat} (h : HaltsAt w p q r 0) (hp : p < w.heap.size) (hq : q < w.heap.size) (hr : r < w.heap.size) : Calls Tryd.prog 13 #[.agg (haltsV q r).arr] w fun e w' => e = .returned (.int .i64 0) ∧ Below w.heap.size w w' := by
  have := wordsR_any (h.mo ⟨by omega, by omega⟩ hp hq hr)
  rw [if_pos halts_right, halts_words] at this
  exact this

end Go.Proofs.YtgohnlcgidmlfaaDoor
