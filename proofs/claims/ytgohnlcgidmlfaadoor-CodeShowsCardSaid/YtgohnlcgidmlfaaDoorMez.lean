/- The code that alive draws, in memory. -/
import Derived.Test.YtgohnlcgidmlfaaDoorMey
set_option linter.unusedVariables false
set_option linter.unusedSimpArgs false
set_option maxRecDepth 100000
namespace Go.Proofs.YtgohnlcgidmlfaaDoor
open Go.RowKit

theorem lies_single {α : Type} {E : Kd α} {w : World} {S : Nat → Prop} {x : α} {g : Nat} {row : List Value} {t : TypeId} (hg : w.heap[g]? = some (.cells row.toArray t (0, 0))) (hS : S g) (hq : E.Q w S x row) : Lies E w S [x] (.slice (some ⟨g, 0, none⟩) 1 1) := by
  refine ⟨some ⟨g, 0, none⟩, 1, fun _ => row, rfl, Nat.le_refl _, by omega, by simp, fun k hk => ?_⟩
  obtain rfl : k = 0 := by simpa using hk
  refine ⟨g, 0, rfl, hS, hq, fun j hj => ?_⟩
  have e : 0 + 0 * E.sz + j = j := by omega
  rw [e, cell_of_row w g j _ _ (0, 0) hg]
  simp
def haltsV (q r : Nat) : Vm := ⟨.slice none 0 0, .slice none 0 0, .slice none 0 0, .slice none 0 0, .slice none 0 0, .slice none 0 0, .slice none 0 0, .slice (some ⟨q, 0, none⟩) 1 1, .slice (some ⟨r, 0, none⟩) 1 1⟩
structure HaltsAt (w : World) (p q r : Nat) (a : Int) : Prop where
  ops : w.heap[p]? = some (.cells #[.int .i64 23, .int .i64 a, .int .i64 0, .int .i64 0, .int .i64 0, .int .i64 0, .int .i64 0, .int .i64 0, .slice none 0 0, .int .i64 0, .int .i64 0, .int .i64 0] 42 (0, 0))
  fns : w.heap[q]? = some (.cells #[.string ⟨#[116]⟩, .int .i64 0, .int .i64 0, .int .i64 0, .slice (some ⟨p, 0, none⟩) 1 1] 39 (0, 0))
  ths : w.heap[r]? = some (.cells #[.int .i64 0] 3 (0, 0))
theorem HaltsAt.mo {w : World} {p q r : Nat} {a : Int} {S : Nat → Prop} (h : HaltsAt w p q r a) (ha : In64 a) (hp : S p) (hq : S q) (hr : S r) : IsMo w S (haltsM a) (haltsV q r) := by
  have z : In64 0 := ⟨by omega, by omega⟩
  refine ⟨Lies.nil _ _, Lies.nil _ _, Lies.nil _ _, Lies.nil _ _, Lies.nil _ _, Lies.nil _ _, Lies.nil _ _, ?_, ?_⟩
  · refine lies_single (row := [.string ⟨#[116]⟩, .int .i64 0, .int .i64 0, .int .i64 0, .slice (some ⟨p, 0, none⟩) 1 1]) h.fns hq ⟨_, rfl, ?_, ⟨by show 1 ≤ _; omega, z, z, z⟩⟩
    exact lies_single (row := [.int .i64 23, .int .i64 a, .int .i64 0, .int .i64 0, .int .i64 0, .int .i64 0, .int .i64 0, .int .i64 0, .slice none 0 0, .int .i64 0, .int .i64 0, .int .i64 0]) h.ops hp ⟨_, rfl, Lies.nil _ _, ⟨⟨by show _ ≤ (23 : Int); omega, by show (23 : Int) ≤ _; omega⟩, ha, z, z, z, z, z, z, z, z, z⟩⟩
  · exact lies_single (row := [.int .i64 0]) h.ths hr ⟨rfl, z⟩
theorem four_allocs (w : World) (a b c d : Obj) : ((((w.alloc a).alloc b).alloc c).alloc d).heap.size = w.heap.size + 4 ∧ ((((w.alloc a).alloc b).alloc c).alloc d).heap[w.heap.size]? = some a ∧ ((((w.alloc a).alloc b).alloc c).alloc d).heap[w.heap.size + 1]? = some b ∧ ((((w.alloc a).alloc b).alloc c).alloc d).heap[w.heap.size + 2]? = some c ∧ ((((w.alloc a).alloc b).alloc c).alloc d).heap[w.heap.size + 3]? = some d ∧ Below w.heap.size w ((((w.alloc a).alloc b).alloc c).alloc d) := by
  have s1 := asz w a
  have s2 := asz (w.alloc a) b
  have s3 := asz ((w.alloc a).alloc b) c
  have s4 := asz (((w.alloc a).alloc b).alloc c) d
  have n0 := heap_alloc_new w a
  have n1 := heap_alloc_new (w.alloc a) b
  have n2 := heap_alloc_new ((w.alloc a).alloc b) c
  have n3 := heap_alloc_new (((w.alloc a).alloc b).alloc c) d
  have e2 : ((w.alloc a).alloc b).heap.size = w.heap.size + 2 := by omega
  have e3 : (((w.alloc a).alloc b).alloc c).heap.size = w.heap.size + 3 := by omega
  rw [s1] at n1
  rw [e2] at n2
  rw [e3] at n3
  refine ⟨by omega, ?_, ?_, ?_, n3, ?_⟩
  · rw [Below.heap_alloc _ _ _ (by omega), Below.heap_alloc _ _ _ (by omega), Below.heap_alloc _ _ _ (by omega)]; exact n0
  · rw [Below.heap_alloc _ _ _ (by omega), Below.heap_alloc _ _ _ (by omega)]; exact n1
  · rw [Below.heap_alloc _ _ _ (by omega)]; exact n2
  · exact ((((Below.refl _ w).alloc (Nat.le_refl _) a).alloc (by omega) b).alloc (by omega) c).alloc (by omega) d
theorem halts_any (w : World) : Calls Tryd.prog 20 #[] w fun e w' => ∃ p q r, w.heap.size ≤ p ∧ p < w'.heap.size ∧ w.heap.size ≤ q ∧ q < w'.heap.size ∧ w.heap.size ≤ r ∧ r < w'.heap.size ∧ p ≠ q ∧ p ≠ r ∧ e = .returned (.agg (haltsV q r).arr) ∧ HaltsAt w' p q r 0 ∧ Below w.heap.size w w' := by
  have F := four_allocs w (.cells #[.slice none 0 0, .slice none 0 0, .slice none 0 0, .slice none 0 0, .slice none 0 0, .slice none 0 0, .slice none 0 0, .slice (some ⟨w.heap.size + 1 + 1, 0, none⟩) 1 1, .slice (some ⟨w.heap.size + 1 + 1 + 1, 0, none⟩) 1 1] 27) (.cells #[.int .i64 23, .int .i64 0, .int .i64 0, .int .i64 0, .int .i64 0, .int .i64 0, .int .i64 0, .int .i64 0, .slice none 0 0, .int .i64 0, .int .i64 0, .int .i64 0] 42) (.cells #[.string ⟨#[116]⟩, .int .i64 0, .int .i64 0, .int .i64 0, .slice (some ⟨w.heap.size + 1, 0, none⟩) 1 1] 39) (.cells #[.int .i64 0] 3)
  have HF := Lib.hid F
  clear F
  go_enter Tryd.func20, Tryd.ntmps20
  go_wp2
  have F := HF.out
  generalize World.alloc _ _ = X at F ⊢
  obtain ⟨f0, f1, f2, f3, f4, f5⟩ := F
  have c : ∀ j, X.cell? ⟨w.heap.size, j, none⟩ = _ := fun j => cell_of_row X w.heap.size j _ _ (0, 0) f1
  have c0 := c 0
  have c1 := c 1
  have c2 := c 2
  have c3 := c 3
  have c4 := c 4
  have c5 := c 5
  have c6 := c 6
  have c7 := c 7
  have c8 := c 8
  simp at c0 c1 c2 c3 c4 c5 c6 c7 c8
  refine bodyPost_ret (v := .agg (haltsV (w.heap.size + 2) (w.heap.size + 3)).arr) ?_ rfl ⟨w.heap.size + 1, w.heap.size + 2, w.heap.size + 3, by omega, by omega, by omega, by omega, by omega, by omega, by omega, by omega, rfl, ⟨f2, f3, f4⟩, f5⟩
  simp [results, Tryd.results20, go_sem, c0, c1, c2, c3, c4, c5, c6, c7, c8, haltsV, Vm.arr]

end Go.Proofs.YtgohnlcgidmlfaaDoor
