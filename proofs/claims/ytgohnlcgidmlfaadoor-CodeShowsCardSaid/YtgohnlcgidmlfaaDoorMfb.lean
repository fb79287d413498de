/- The walk of alive. -/
import Derived.Test.YtgohnlcgidmlfaaDoorMfa
set_option linter.unusedVariables false
set_option linter.unusedSimpArgs false
set_option maxRecDepth 100000
namespace Go.Proofs.YtgohnlcgidmlfaaDoor
open Go.RowKit

set_option maxHeartbeats 2000000 in
theorem alive10_any {w : World} (hnm : NmW w) (htb : TbW w) : Calls Tryd.prog 8 #[] w fun e w' => e = .returned (.bool true) ∧ Below w.heap.size w w' := by
  have hlt := nmW_lt hnm
  have HN := Lib.hid hnm
  have HT := Lib.hid htb
  clear hnm htb
  go_enter Tryd.func8, Tryd.ntmps8
  go_wp2_with fail
  refine (halts_any w).mono ?_
  rintro e w1 ⟨p, q, r, p0, p1, q0, q1, r0, r1, -, -, rfl, hat, hb1⟩
  have hs1 := hb1.size
  have HB1 := Lib.hid hb1
  have HN1 := Lib.hid (nmW_below HN.out hlt hb1)
  have HT1 : Hid (TbW w1) := Lib.hid (by unfold TbW; have := Lib.TabBelow.on HT.out hb1; exact fun w' hb => HT.out w' (hb1.trans (hb.mono hs1)))
  have HS : Hid (Calls Tryd.prog 18 #[.agg (haltsV q r).arr] w1 fun e w' => e = .returned (.tuple #[.string ⟨#[102, 117, 110, 99, 32, 48, 32, 48, 32, 48, 32, 48, 10, 48, 32, 114, 101, 116, 117, 114, 110, 32, 48, 32, 48, 32, 48, 32, 48, 32, 48, 32, 48, 32, 48, 10]⟩, .int .i64 0]) ∧ Below w1.heap.size w1 w') := Lib.hid (halts_show hat p1 q1 r1 HN1.out HT1.out)
  clear hat hb1
  go_wp2_with fail
  refine HS.out.mono ?_
  rintro e w2 ⟨rfl, hb2⟩
  have hs2 := hb2.size
  have HB2 := Lib.hid (HB1.out.trans (hb2.mono HB1.out.size))
  clear hb2
  go_wp2_with fail
  refine (halts_any w2).mono ?_
  rintro e w3 ⟨p, q, r, p0, p1, q0, q1, r0, r1, hpq, hpr, rfl, hat, hb3⟩
  have hs3 := hb3.size
  have HB3 := Lib.hid (HB2.out.trans (hb3.mono HB2.out.size))
  clear hb3
  obtain ⟨X, hX⟩ : ∃ X : World, X = w3.alloc (.cells (haltsV q r).arr 27) := ⟨_, rfl⟩
  obtain ⟨g, hg⟩ : ∃ g, g = w3.heap.size := ⟨_, rfl⟩
  have hX0 : X.heap[g]? = some (.cells (haltsV q r).arr 27 (0, 0)) := by rw [hX, hg]; exact heap_alloc_new _ _
  have hXb : Below w3.heap.size w3 X := by rw [hX]; exact (Below.refl _ w3).alloc (Nat.le_refl _) _
  have hXs : X.heap.size = g + 1 := by rw [hX, asz, hg]
  have hx := haltsAt_below hat hXb p1 q1 r1
  have cg : ∀ j, X.cell? ⟨g, j, none⟩ = _ := fun j => cell_of_row X g j _ _ (0, 0) hX0
  have cp : ∀ j, X.cell? ⟨p, j, none⟩ = _ := fun j => cell_of_row X p j _ _ (0, 0) hx.ops
  have cq : ∀ j, X.cell? ⟨q, j, none⟩ = _ := fun j => cell_of_row X q j _ _ (0, 0) hx.fns
  have e7 := cg 7
  have e1 := cp 1
  have e4 := cq 4
  have e0 := cq 0
  have z1 : X.frozen? ⟨p, 1, none⟩ = false := frozen_of_row X p 1 _ _ hx.ops
  simp [haltsV, Vm.arr] at e7 e1 e4 e0
  simp only [haltsV, Vm.arr] at hX ⊢
  have HAT := Lib.hid hat
  have HX := Lib.hid hx
  have HXB := Lib.hid hXb
  have HX0 := Lib.hid hX0
  clear hat hx cg cp cq hXb hX0
  rw [hX] at e7 e1 e4 e0 z1
  rw [hg] at e7
  have HXE := Lib.hid hX
  have HG := Lib.hid hg
  clear hX hg
  go_wp2_with fail
  obtain ⟨Y, hY⟩ : ∃ Y : World, Y = ((w3.setCell ⟨p, 1, none⟩ (.int .i64 1)).alloc (.cells #[.slice none 0 0, .slice none 0 0, .slice none 0 0, .slice none 0 0, .slice none 0 0, .slice none 0 0, .slice none 0 0, .slice (some ⟨q, 0, none⟩) 1 1, .slice (some ⟨r, 0, none⟩) 1 1] 27)) := ⟨_, rfl⟩
  have hszs : (w3.setCell ⟨p, 1, none⟩ (.int .i64 1)).heap.size = w3.heap.size := by simp
  have hY0 : Y.heap[g]? = some (.cells (haltsV q r).arr 27 (0, 0)) := by rw [hY, HG.out, ← hszs]; exact heap_alloc_new _ _
  have hYs : Y.heap.size = g + 1 := by rw [hY, asz, hszs, HG.out]
  have hYH : HaltsAt Y p q r 1 := by
    have hne1 : q ≠ p := fun h => hpq h.symm
    have hne2 : r ≠ p := fun h => hpr h.symm
    rw [hY]
    refine ⟨?_, ?_, ?_⟩
    · rw [Below.heap_alloc _ _ _ (by rw [hszs]; exact p1), heap_setCell_same _ _ _ _ _ _ HAT.out.ops]
      rfl
    · rw [Below.heap_alloc _ _ _ (by rw [hszs]; exact q1), Below.heap_setCell _ _ _ _ hne1]
      exact HAT.out.fns
    · rw [Below.heap_alloc _ _ _ (by rw [hszs]; exact r1), Below.heap_setCell _ _ _ _ hne2]
      exact HAT.out.ths
  have hYb : Below w.heap.size w Y := by
    rw [hY]
    exact (HB3.out.setCell (p := ⟨p, 1, none⟩) (by show _ ≤ p; omega) _).alloc (by rw [hszs]; omega) _
  rw [← hY]
  have HYE := Lib.hid hY
  have HY0 := Lib.hid hY0
  have HYH := Lib.hid hYH
  have HYB := Lib.hid hYb
  clear hY hY0 hYH hYb e7 e1 e4 e0 z1
  have HBY := HYB
  have HPY : Hid (Below (g + 1) Y Y) := Lib.hid (Below.refl _ _)
  have hzY : g + 1 ≤ Y.heap.size := by omega
  refine (halts_any Y).mono ?_
  rintro e w4 ⟨p', q', r', p0', p1', q0', q1', r0', r1', -, -, rfl, hat, hb⟩
  have hsw4 := hb.size
  have HBw4 := Lib.hid (HBY.out.trans (hb.mono HBY.out.size))
  have HPw4 := Lib.hid (HPY.out.trans (hb.mono hzY))
  have hzw4 : g + 1 ≤ w4.heap.size := by omega
  simp only [haltsV, Vm.arr]
  have HS := Lib.hid (halts_right0 hat p1' q1' r1')
  go_wp2_with fail
  refine HS.out.mono ?_
  rintro e w5 ⟨rfl, hb⟩
  have hsw5 := hb.size
  have HBw5 := Lib.hid (HBw4.out.trans (hb.mono HBw4.out.size))
  have HPw5 := Lib.hid (HPw4.out.trans (hb.mono hzw4))
  have hzw5 : g + 1 ≤ w5.heap.size := by omega
  clear hb HS hat
  have hx5 := haltsAt_below HYH.out HPw5.out (by have := HG.out; omega) (by have := HG.out; omega) (by have := HG.out; omega)
  have cg : ∀ j, w5.cell? ⟨g, j, none⟩ = _ := fun j => cell_of_row w5 g j _ _ (0, 0) ((HPw5.out.block g (by omega)).trans HY0.out)
  have d0 := cg 0
  have d1 := cg 1
  have d2 := cg 2
  have d3 := cg 3
  have d4 := cg 4
  have d5 := cg 5
  have d6 := cg 6
  have d7 := cg 7
  have d8 := cg 8
  simp [haltsV, Vm.arr] at d0 d1 d2 d3 d4 d5 d6 d7 d8
  rw [HG.out] at d0 d1 d2 d3 d4 d5 d6 d7 d8
  have HS := Lib.hid (halts_right1 hx5 (by have := HG.out; omega) (by have := HG.out; omega) (by have := HG.out; omega))
  go_wp2_with fail
  refine HS.out.mono ?_
  rintro e w6 ⟨rfl, hb⟩
  have hsw6 := hb.size
  have HBw6 := Lib.hid (HBw5.out.trans (hb.mono HBw5.out.size))
  have HPw6 := Lib.hid (HPw5.out.trans (hb.mono hzw5))
  have hzw6 : g + 1 ≤ w6.heap.size := by omega
  clear hb HS hx5 cg d0 d1 d2 d3 d4 d5 d6 d7 d8
  go_wp2_with fail
  refine (halts_any w6).mono ?_
  rintro e w7 ⟨p', q', r', p0', p1', q0', q1', r0', r1', -, -, rfl, hat, hb⟩
  have hsw7 := hb.size
  have HBw7 := Lib.hid (HBw6.out.trans (hb.mono HBw6.out.size))
  have HPw7 := Lib.hid (HPw6.out.trans (hb.mono hzw6))
  have hzw7 : g + 1 ≤ w7.heap.size := by omega
  simp only [haltsV, Vm.arr]
  have HS := Lib.hid (halts_size0 hat p1' q1' r1')
  go_wp2_with fail
  refine HS.out.mono ?_
  rintro e w8 ⟨rfl, hb⟩
  have hsw8 := hb.size
  have HBw8 := Lib.hid (HBw7.out.trans (hb.mono HBw7.out.size))
  have HPw8 := Lib.hid (HPw7.out.trans (hb.mono hzw7))
  have hzw8 : g + 1 ≤ w8.heap.size := by omega
  clear hb HS hat
  go_wp2_with fail
  refine (halts_any w8).mono ?_
  rintro e w9 ⟨p', q', r', p0', p1', q0', q1', r0', r1', -, -, rfl, hat, hb⟩
  have hsw9 := hb.size
  have HBw9 := Lib.hid (HBw8.out.trans (hb.mono HBw8.out.size))
  have HPw9 := Lib.hid (HPw8.out.trans (hb.mono hzw8))
  have hzw9 : g + 1 ≤ w9.heap.size := by omega
  simp only [haltsV, Vm.arr]
  have HS := Lib.hid (halts_words0 hat p1' q1' r1')
  go_wp2_with fail
  refine HS.out.mono ?_
  rintro e w10 ⟨rfl, hb⟩
  have hsw10 := hb.size
  have HBw10 := Lib.hid (HBw9.out.trans (hb.mono HBw9.out.size))
  have HPw10 := Lib.hid (HPw9.out.trans (hb.mono hzw9))
  have hzw10 : g + 1 ≤ w10.heap.size := by omega
  clear hb HS hat
  go_wp2
  go_ret
  exact ⟨rfl, HBw10.out⟩

end Go.Proofs.YtgohnlcgidmlfaaDoor
