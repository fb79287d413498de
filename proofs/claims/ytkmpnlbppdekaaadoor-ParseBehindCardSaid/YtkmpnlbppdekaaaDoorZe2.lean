/- Gm -/
import Derived.Test.YtkmpnlbppdekaaaDoorZe1
import Derived.StillTailTactics
import Derived.IntWalk
set_option linter.unusedVariables false
set_option linter.unusedSimpArgs false
namespace Go.Proofs.YtkmpnlbppdekaaaDoor
open Go.RowKit
theorem exprA_any (s : ByteArray) (hs : s.size ≤ 40000) (w : World) : Calls Tryd.prog 8 #[.string s] w (ReadXPost w s.data.toList) := by
  have hmf : ∀ (fn : Fn) (first cap : Array Value) (w : World), (Instr.makeFunc fn first cap).run Tryd.prog w = .ok (.func fn first cap) w := fun _ _ _ _ => rfl
  obtain ⟨X, hX⟩ : ∃ X : World, X = w.alloc (.cells #[.int .i64 0, .int .i64 0, .int .i64 0, .string ⟨#[]⟩, .slice none 0 0] 32) := ⟨_, rfl⟩
  have hbX : Below w.heap.size w X := by rw [hX]; exact below_new _ _
  have hrow : X.heap[w.heap.size]? = some (.cells #[.int .i64 0, .int .i64 0, .int .i64 0, .string ⟨#[]⟩, .slice none 0 0] 32 (0, 0)) := by rw [hX]; exact heap_alloc_new _ _
  have hsz : X.heap.size = w.heap.size + 1 := by rw [hX]; simp
  have HR := Lib.hid (readx_any s hs X)
  have HX := Lib.hid hX
  have HBX := Lib.hid hbX
  have HROW := Lib.hid hrow
  have HSZ := Lib.hid hsz
  clear hX hbX hrow hsz
  go_enter Tryd.func8, Tryd.ntmps8
  go_wp2_with fail
  rw [← HX.out]
  refine HR.out.mono ?_
  rintro e w1 ⟨v, rfl, ⟨u, rfl, hnm, hd⟩, hb⟩
  obtain ⟨A, c, rfl, -⟩ := IsExs.slice hd
  have r0 := (hb.block w.heap.size (by have := HSZ.out; omega)).trans HROW.out
  have d0 := cell_of_row w1 w.heap.size 0 _ _ (0, 0) r0
  have d1 := cell_of_row w1 w.heap.size 1 _ _ (0, 0) r0
  have d2 := cell_of_row w1 w.heap.size 2 _ _ (0, 0) r0
  have d3 := cell_of_row w1 w.heap.size 3 _ _ (0, 0) r0
  have d4 := cell_of_row w1 w.heap.size 4 _ _ (0, 0) r0
  have f0 := frozen_of_row w1 w.heap.size 0 _ _ r0
  have f1 := frozen_of_row w1 w.heap.size 1 _ _ r0
  have f2 := frozen_of_row w1 w.heap.size 2 _ _ r0
  have f3 := frozen_of_row w1 w.heap.size 3 _ _ r0
  have f4 := frozen_of_row w1 w.heap.size 4 _ _ r0
  simp at d0 d1 d2 d3 d4
  have HB := Lib.hid (HBX.out.trans (hb.mono HBX.out.size))
  have HD := Lib.hid hd
  have HNM := Lib.hid hnm
  have HS1 := Lib.hid hb.size
  have HR0 := Lib.hid r0
  clear hb hd hnm r0 hmf HR
  obtain ⟨x, hx⟩ : ∃ x, x = (exprP s.data.toList).1 := ⟨_, rfl⟩
  obtain ⟨y, hy⟩ : ∃ y, y = (exprP s.data.toList).2.1 := ⟨_, rfl⟩
  obtain ⟨z, hz⟩ : ∃ z, z = (exprP s.data.toList).2.2 := ⟨_, rfl⟩
  have HPOST : Hid (ReadXPost w s.data.toList = fun e w' => ∃ v, e = .returned (.tuple #[v, .int .i64 (y : Nat), .int .i64 (z : Nat)]) ∧ ExB w.heap.size w' x v ∧ Below w.heap.size w w') := Lib.hid (by rw [hx, hy, hz]; rfl)
  rw [← hx] at HD HNM
  rw [← hx, ← hy, ← hz]
  clear hx hy hz
  go_wp2
  generalize hV : ((((w1.setCell ⟨w.heap.size, 0, none⟩ (.int .i64 x.kind)).setCell ⟨w.heap.size, 1, none⟩ (.int .i64 x.pl)).setCell ⟨w.heap.size, 2, none⟩ (.int .i64 x.num)).setCell ⟨w.heap.size, 3, none⟩ (.string (strOf x.name))).setCell ⟨w.heap.size, 4, none⟩ (.slice A x.args.length c) = V
  have v0 := set_five HR0.out (.int .i64 x.kind) (.int .i64 x.pl) (.int .i64 x.num) (.string (strOf x.name)) (.slice A x.args.length c)
  have hcV := chg_five w1 w.heap.size (.int .i64 x.kind) (.int .i64 x.pl) (.int .i64 x.num) (.string (strOf x.name)) (.slice A x.args.length c)
  rw [hV] at v0 hcV
  clear d0 d1 d2 d3 d4 f0 f1 f2 f3 f4
  have c0 := cell_of_row V w.heap.size 0 _ _ (0, 0) v0
  have c1 := cell_of_row V w.heap.size 1 _ _ (0, 0) v0
  have c2 := cell_of_row V w.heap.size 2 _ _ (0, 0) v0
  have c3 := cell_of_row V w.heap.size 3 _ _ (0, 0) v0
  have c4 := cell_of_row V w.heap.size 4 _ _ (0, 0) v0
  simp at c0 c1 c2 c3 c4
  rw [HPOST.out]
  refine bodyPost_ret (v := .tuple #[.agg #[.int .i64 x.kind, .int .i64 x.pl, .int .i64 x.num, .string (strOf x.name), .slice A x.args.length c], .int .i64 (y : Nat), .int .i64 (z : Nat)]) ?_ rfl ?_
  · clear HD HNM HPOST HB HS1 HR0 HX HBX HROW HSZ hV v0 hcV
    simp [results, Tryd.results8, go_sem, c0, c1, c2, c3, c4]
  · have h1 := HSZ.out
    have h2 := HS1.out
    have h3 := HB.out.size
    exact ⟨_, rfl, ⟨_, rfl, HNM.out, IsExs.keep HD.out (fun b hb => hcV.block b hb.2 (by have := hb.1; omega)) fun b hb => ⟨by have := hb.1; omega, Nat.lt_of_lt_of_le hb.2 hcV.size⟩⟩, HB.out.trans (hcV.below h3 fun b hb => by omega)⟩
end Go.Proofs.YtkmpnlbppdekaaaDoor
