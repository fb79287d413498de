/- Gj -/
import Derived.Test.YtbckeljbpknbdaaGreatDoorVd6
set_option linter.unusedVariables false
set_option linter.unusedSimpArgs false
namespace Go.Proofs.YtbckeljbpknbdaaGreatDoor
open Go.RowKit
theorem Xwi (s : ByteArray) (hs : s.size ≤ 40000) (w : World) : Calls Tryz.prog 9 #[.string s] w (Xjt w s.data.toList) := by
 have hmf : ∀ (fn : Fn) (first cap : Array Value) (w : World), (Instr.makeFunc fn first cap).run Tryz.prog w = .ok (.func fn first cap) w := fun _ _ _ _ => rfl
 obtain ⟨X, hX⟩ : ∃ X : World, X = w.alloc (.cells #[.slice none 0 0] 25) := ⟨_, rfl⟩
 have hbX : Below w.heap.size w X := by rw [hX]; exact Xae _ _
 have hrow : X.heap[w.heap.size]? = some (.cells #[.slice none 0 0] 25 (0, 0)) := by rw [hX]; exact heap_alloc_new _ _
 have hsz : X.heap.size = w.heap.size + 1 := by rw [hX]; simp
 have HR := lh (read_any s hs X)
 have HX := lh hX
 have HBX := lh hbX
 have HROW := lh hrow
 have HSZ := lh hsz
 clear hX hbX hrow hsz
 go_enter Tryz.func9, Tryz.ntmps9
 go_wp2_with fail
 rw [← HX.out]
 refine HR.out.mono ?_
 rintro e w1 ⟨v, rfl, ⟨A, m, c, rfl, hd⟩, hb⟩
 have r0 := (hb.block w.heap.size (by have := HSZ.out; omega)).trans HROW.out
 have c0 : w1.cell? ⟨w.heap.size, 0, none⟩ = some (.slice none 0 0) := by rw [cell_of_row w1 _ 0 _ _ (0, 0) r0]; rfl
 have z0 := frozen_of_row w1 w.heap.size 0 _ _ r0
 have HB := lh (HBX.out.trans (hb.mono HBX.out.size))
 have HD := lh hd
 have HS1 := lh hb.size
 clear hb hd r0 hmf
 go_wp2
 refine bodyPost_ret (v := .tuple #[.agg #[.slice A m c], .int .i64 ((Xco s.data.toList).2.1 : Nat), .int .i64 ((Xco s.data.toList).2.2 : Nat)]) ?_ rfl ?_
 · clear HD HR
   simp [results, Tryz.results9, go_sem, c0]
 · have hch : Chg (fun b => b = w.heap.size) w1 (w1.setCell ⟨w.heap.size, 0, none⟩ (.slice A m c)) := (Chg.refl _ _).setCell _ _ fun _ => rfl
   have h1 := HSZ.out
   have h2 := HS1.out
   exact ⟨_, rfl, ⟨A, m, c, rfl, Xbu.low (Xbu.keep HD.out hch.size fun b hb hb2 => hch.block b hb (by omega)) (by omega)⟩, HB.out.setCell (Nat.le_refl _) _⟩
end Go.Proofs.YtbckeljbpknbdaaGreatDoor
