/- Gp -/
import Derived.Test.YtkmpnlbppdekaaaDoorZe5
import Derived.StillTailTactics
import Derived.IntWalk
set_option linter.unusedVariables false
set_option linter.unusedSimpArgs false
namespace Go.Proofs.YtkmpnlbppdekaaaDoor
open Go.RowKit
theorem al_cells {w : World} {S : Nat → Prop} {d : Dc} {m : Sm} {x : Ex} {b off c : Nat} (h : DcsIn w S [d] (.slice (some ⟨b, off, none⟩) 1 c)) (h1 : d.body = [m]) (h2 : m.exprs = [x]) (h3 : x.name = [43]) :
    ∃ b1 o1 c1 b2 o2 c2, S b ∧ S b1 ∧ S b2 ∧ w.cell? ⟨b, off + 6, none⟩ = some (.slice (some ⟨b1, o1, none⟩) 1 c1) ∧ w.cell? ⟨b1, o1 + 4, none⟩ = some (.slice (some ⟨b2, o2, none⟩) 1 c2) ∧ w.cell? ⟨b2, o2 + 3, none⟩ = some (.string ⟨#[43]⟩) ∧ 1 ≤ c ∧ 1 ≤ c1 ∧ 1 ≤ c2 := by
  obtain ⟨A', c', fp, fb, hv, hc, -, hk, -, hs⟩ := h
  cases hv
  obtain ⟨b', off', hA, hS, -, -, -, -, -, -, -, -, hb6⟩ := hk 0 (by simp)
  cases hA
  have hs0 := hs 0 (by simp)
  simp only [List.getElem_cons_zero, h1] at hs0 hb6
  generalize fb 0 = v1 at hs0 hb6
  cases hs0 with
  | mk _ A1 c1 fe fb1 fl hc1 _ hA1 he _ _ =>
    obtain ⟨b1, o1, rfl, hS1, -, -, -, -, -, -, h14, -, -⟩ := hA1 0 (by simp)
    have he0 := he 0 (by simp)
    simp only [List.getElem_cons_zero, h2] at he0 h14
    generalize fe 0 = v2 at he0 h14
    cases he0 with
    | mk _ A2 c2 f hc2 _ hA2 _ =>
      obtain ⟨b2, o2, rfl, hS2, -, -, -, -, h23, -⟩ := hA2 0 (by simp)
      simp only [List.getElem_cons_zero, h3] at h23
      simp at hb6 h14 h23 hc hc1 hc2
      exact ⟨b1, o1, c1, b2, o2, c2, hS, hS1, hS2, hb6, h14, h23, hc, hc1, hc2⟩
set_option maxRecDepth 100000 in
set_option maxHeartbeats 2000000 in
theorem alive4_any (w : World) : Calls Tryd.prog 6 #[] w fun e w' => e = .returned (.bool true) ∧ Below w.heap.size w w' := by
  go_enter Tryd.func6, Tryd.ntmps6
  go_wp2_with fail
  refine (al_first w).mono ?_
  rintro e w1 ⟨d, m, x, b, off, c, rfl, hd, h1, h2, h3, hb1⟩
  obtain ⟨b1, o1, c1, b2, o2, c2, ⟨-, s0⟩, ⟨-, s1⟩, ⟨-, s2⟩, k0, k1, k2, hc, hc1, hc2⟩ := al_cells hd h1 h2 h3
  have HB1 := Lib.hid hb1
  clear hd h1 h2 h3 hb1 d m x
  go_wp2_with fail
  obtain ⟨X, hX⟩ : ∃ X, X = w1.alloc (.cells #[.slice (some ⟨b, off, none⟩) 1 c] 25) := ⟨_, rfl⟩
  obtain ⟨g, hg⟩ : ∃ g, g = w1.heap.size := ⟨_, rfl⟩
  have hbX : Below w1.heap.size w1 X := by rw [hX]; exact below_new _ _
  have r0 : X.heap[g]? = some (.cells #[.slice (some ⟨b, off, none⟩) 1 c] 25 (0, 0)) := by rw [hX, hg]; exact heap_alloc_new _ _
  have hsX : X.heap.size = g + 1 := by rw [hX, hg]; simp
  rw [← hX, ← hg]
  clear hX
  refine (al_second X).mono ?_
  rintro e w2 ⟨A9, n9, c9, rfl, hb2⟩
  have hb12 := hbX.trans (hb2.mono hbX.size)
  have hs2 := hb2.size
  have r2 := (hb2.block g (by omega)).trans r0
  have HB2 := Lib.hid (HB1.out.trans (hb12.mono HB1.out.size))
  have HK0 := Lib.hid ((World.cell?_of_block (hb12.block b s0)).trans k0)
  have HK1 := Lib.hid ((World.cell?_of_block (hb12.block b1 s1)).trans k1)
  have HK2 := Lib.hid ((World.cell?_of_block (hb12.block b2 s2)).trans k2)
  have t0 : b < w2.heap.size := by omega
  have t1 : b1 < w2.heap.size := by omega
  have t2 : b2 < w2.heap.size := by omega
  have tg : g < w2.heap.size := by omega
  have HR2 := Lib.hid r2
  clear s0 s1 s2 k0 k1 k2 hb12 hb2 r0 r2 hbX hsX hs2 hg
  go_wp2_with fail
  obtain ⟨Y, hY⟩ : ∃ Y, Y = w2.alloc (.cells #[.slice A9 n9 c9] 25) := ⟨_, rfl⟩
  obtain ⟨g2, hg2⟩ : ∃ g, g = w2.heap.size := ⟨_, rfl⟩
  have hbY : Below w2.heap.size w2 Y := by rw [hY]; exact below_new _ _
  rw [← hY, ← hg2]
  clear hY
  refine (al_third Y).mono ?_
  rintro e w3 ⟨n3, s3, A3, k3, c3, rfl, hb3⟩
  have hb23 := hbY.trans (hb3.mono hbY.size)
  have hs3 := hb23.size
  have k0 := (World.cell?_of_block (hb23.block b t0)).trans HK0.out
  have k1 := (World.cell?_of_block (hb23.block b1 t1)).trans HK1.out
  have k2 := (World.cell?_of_block (hb23.block b2 t2)).trans HK2.out
  have r3 := (hb23.block g tg).trans HR2.out
  have q0 : w3.cell? ⟨g, 0, none⟩ = some (.slice (some ⟨b, off, none⟩) 1 c) := by rw [cell_of_row w3 g 0 _ _ (0, 0) r3]; rfl
  have HB3 := Lib.hid (HB2.out.trans (hb23.mono HB2.out.size))
  have v0 : b < w3.heap.size := by omega
  have v1 : b1 < w3.heap.size := by omega
  have v2 : b2 < w3.heap.size := by omega
  have vg : g < w3.heap.size := by omega
  clear hb23 hb3 hbY HK0 HK1 HK2 HR2 t0 t1 t2 tg r3 hs3 hg2
  go_wp2
  go_ret
  exact ⟨rfl, HB3.out.alloc HB3.out.size _⟩
end Go.Proofs.YtkmpnlbppdekaaaDoor
