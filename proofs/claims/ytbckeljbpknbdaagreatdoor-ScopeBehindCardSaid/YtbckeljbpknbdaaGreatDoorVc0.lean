/- Ga -/
import Derived.Test.YtbckeljbpknbdaaGreatDoorVa2
set_option linter.unusedVariables false
set_option linter.unusedSimpArgs false
namespace Go.Proofs.YtbckeljbpknbdaaGreatDoor
open Go.RowKit
theorem pop_end1 {w : World} {B R L : Nat} (h : RdAt w B R L []) (hB : B ≤ w.heap.size) {tb off c : Nat} (h1 : w.heap[R]? = some (.cells #[.slice (some ⟨tb, off, none⟩) (1) 1] 78 (0, 0))) (hcc : c = 1) (h3 : c ≤ 9223372036854775807) (k0 : w.cell? ⟨tb, off, none⟩ = some (.int .i64 0)) (k1 : w.cell? ⟨tb, off + 1, none⟩ = some (.string ⟨#[]⟩)) (k2 : w.cell? ⟨tb, off + 2, none⟩ = some (.int .i64 (L : Nat))) :
  Calls Tryz.prog 53 #[.pointer (some ⟨R, 0, none⟩)] w fun e w' => e = .returned (.agg #[.int .i64 0, .string ⟨#[]⟩, .int .i64 (L : Nat)]) ∧ Chg (fun b => b = R) w w' := by
 subst hcc
 have c0 := cell_of_row w R 0 _ _ (0, 0) h1
 simp at c0
 have z0 := frozen_of_row w R 0 _ _ h1
 have az := Xdb c0 z0
 have HH := lh h
 have H1 := lh h1
 obtain ⟨X, hX⟩ : ∃ X : World, X = w.alloc (.cells #[.int .i64 0, .string ⟨#[]⟩, .int .i64 0] 76) := ⟨_, rfl⟩
 obtain ⟨g, hg⟩ : ∃ g, g = w.heap.size := ⟨_, rfl⟩
 have hsx : X.heap.size = g + 1 := by rw [hX, hg]; simp
 have x0 : X.cell? ⟨R, 0, none⟩ = some (.slice (some ⟨tb, off, none⟩) (1) 1) := by rw [hX]; exact Xaa c0 _
 have xz : X.frozen? ⟨R, 0, none⟩ = false := by rw [hX]; exact az _
 have x1 : X.cell? ⟨tb, off, none⟩ = some (.int .i64 0) := by rw [hX]; exact Xaa k0 _
 have x2 : X.cell? ⟨tb, off + 1, none⟩ = some (.string (⟨#[]⟩)) := by rw [hX]; exact Xaa k1 _
 have x3 : X.cell? ⟨tb, off + 2, none⟩ = some (.int .i64 (L : Nat)) := by rw [hX]; exact Xaa k2 _
 have hgr : X.heap[g]? = some (.cells #[.int .i64 0, .string ⟨#[]⟩, .int .i64 0] 76 (0, 0)) := by rw [hX, hg]; exact Xgi _ _ _ _
 have hRg : R < g := by rw [hg]; exact Xce c0
 obtain ⟨Y, hY⟩ : ∃ Y : World, Y = X.alloc (.cells #[.int .i64 0, .string (⟨#[]⟩), .int .i64 (L : Nat)] 76) := ⟨_, rfl⟩
 have y0 : Y.cell? ⟨R, 0, none⟩ = some (.slice (some ⟨tb, off, none⟩) (1) 1) := by rw [hY]; exact Xaa x0 _
 have yz : Y.frozen? ⟨R, 0, none⟩ = false := by rw [hY]; exact Xdb x0 xz _
 have yr : Y.heap[g + 1]? = some (.cells #[.int .i64 0, .string (⟨#[]⟩), .int .i64 (L : Nat)] 76 (0, 0)) := by rw [hY, ← hsx]; exact Xgi _ _ _ _
 have yg : Y.heap[g]? = some (.cells #[.int .i64 0, .string ⟨#[]⟩, .int .i64 0] 76 (0, 0)) := by rw [hY, Below.heap_alloc _ _ _ (by omega)]; exact hgr
 have hby : Below w.heap.size w Y := by rw [hY]; exact ((by rw [hX]; exact Xae _ _ : Below w.heap.size w X)).alloc (by rw [hsx, ← hg]; omega) _
 obtain ⟨Z, hZ⟩ : ∃ Z : World, Z = Y.setCell ⟨R, 0, none⟩ (.slice (some ⟨tb, off, none⟩) 0 0) := ⟨_, rfl⟩
 have zr : Z.heap[g + 1]? = some (.cells #[.int .i64 0, .string (⟨#[]⟩), .int .i64 (L : Nat)] 76 (0, 0)) := by rw [hZ, Below.heap_setCell _ _ _ _ (by simp; omega)]; exact yr
 have zg : Z.heap[g]? = some (.cells #[.int .i64 0, .string ⟨#[]⟩, .int .i64 0] 76 (0, 0)) := by rw [hZ, Below.heap_setCell _ _ _ _ (by simp; omega)]; exact yg
 have z0 : Z.cell? ⟨g + 1, 0, none⟩ = some (.int .i64 0) := by rw [cell_of_row Z _ 0 _ _ (0, 0) zr]; rfl
 have z1 : Z.cell? ⟨g + 1, 1, none⟩ = some (.string (⟨#[]⟩)) := by rw [cell_of_row Z _ 1 _ _ (0, 0) zr]; rfl
 have z2 : Z.cell? ⟨g + 1, 2, none⟩ = some (.int .i64 (L : Nat)) := by rw [cell_of_row Z _ 2 _ _ (0, 0) zr]; rfl
 have f0 : Z.frozen? ⟨g, 0, none⟩ = false := frozen_of_row Z g 0 _ _ zg
 have f1 : Z.frozen? ⟨g, 1, none⟩ = false := frozen_of_row Z g 1 _ _ zg
 have f2 : Z.frozen? ⟨g, 2, none⟩ = false := frozen_of_row Z g 2 _ _ zg
 have m0 : Z.cell? ⟨g, 0, none⟩ = some (.int .i64 0) := by rw [cell_of_row Z _ 0 _ _ (0, 0) zg]; rfl
 have m1 : Z.cell? ⟨g, 1, none⟩ = some (.string ⟨#[]⟩) := by rw [cell_of_row Z _ 1 _ _ (0, 0) zg]; rfl
 have m2 : Z.cell? ⟨g, 2, none⟩ = some (.int .i64 0) := by rw [cell_of_row Z _ 2 _ _ (0, 0) zg]; rfl
 have HFIN : Hid (∀ w', Below w.heap.size Z w' → Chg (fun b => b = R) w w') := lh fun w' hb => by
  have hk : ∀ b, b < w.heap.size → b ≠ R → w'.heap[b]? = w.heap[b]? := fun b hlt hne => (hb.block b hlt).trans (by rw [hZ, Below.heap_setCell _ _ _ _ (by simpa using hne)]; exact hby.block b hlt)
  refine ⟨?_, ?_, ?_, ?_, fun k hlt hn => hk k hlt hn⟩
  · rw [hb.os, hZ]; exact hby.os
  · rw [hb.tape, hZ]; exact hby.tape
  · rw [hb.output, hZ]; exact hby.output
  · have := hb.size; have := hby.size; rw [hZ] at *; simp [World.setCell] at *; omega
 clear h h1 c0 k0 k1 k2 az hby hgr yr yg zr zg xz hRg
 subst hZ hY hX hg
 go_enter Tryz.func53, Tryz.ntmps53
 go_wp2
 refine bodyPost_ret (v := .agg #[.int .i64 0, .string (⟨#[]⟩), .int .i64 (L : Nat)]) ?_ rfl ⟨rfl, HFIN.out _ ?_⟩
 · simp [results, Tryz.results53, go_sem, m0, m1, m2]
 · refine Below.setCell ?_ (by simp) _
   refine Below.setCell ?_ (by simp) _
   refine Below.setCell ?_ (by simp) _
   exact Below.refl _ _
theorem pop_end2 {w : World} {B R L : Nat} (h : RdAt w B R L []) (hB : B ≤ w.heap.size) {tb off c : Nat} (h1 : w.heap[R]? = some (.cells #[.slice (some ⟨tb, off, none⟩) (1) c] 78 (0, 0))) (hcc : 1 < c) (h3 : c ≤ 9223372036854775807) (k0 : w.cell? ⟨tb, off, none⟩ = some (.int .i64 0)) (k1 : w.cell? ⟨tb, off + 1, none⟩ = some (.string ⟨#[]⟩)) (k2 : w.cell? ⟨tb, off + 2, none⟩ = some (.int .i64 (L : Nat))) :
  Calls Tryz.prog 53 #[.pointer (some ⟨R, 0, none⟩)] w fun e w' => e = .returned (.agg #[.int .i64 0, .string ⟨#[]⟩, .int .i64 (L : Nat)]) ∧ Chg (fun b => b = R) w w' := by
 have c0 := cell_of_row w R 0 _ _ (0, 0) h1
 simp at c0
 have z0 := frozen_of_row w R 0 _ _ h1
 have az := Xdb c0 z0
 have hc1 : ¬ c - 1 = 0 := by omega
 have HH := lh h
 have H1 := lh h1
 obtain ⟨X, hX⟩ : ∃ X : World, X = w.alloc (.cells #[.int .i64 0, .string ⟨#[]⟩, .int .i64 0] 76) := ⟨_, rfl⟩
 obtain ⟨g, hg⟩ : ∃ g, g = w.heap.size := ⟨_, rfl⟩
 have hsx : X.heap.size = g + 1 := by rw [hX, hg]; simp
 have x0 : X.cell? ⟨R, 0, none⟩ = some (.slice (some ⟨tb, off, none⟩) (1) c) := by rw [hX]; exact Xaa c0 _
 have xz : X.frozen? ⟨R, 0, none⟩ = false := by rw [hX]; exact az _
 have x1 : X.cell? ⟨tb, off, none⟩ = some (.int .i64 0) := by rw [hX]; exact Xaa k0 _
 have x2 : X.cell? ⟨tb, off + 1, none⟩ = some (.string (⟨#[]⟩)) := by rw [hX]; exact Xaa k1 _
 have x3 : X.cell? ⟨tb, off + 2, none⟩ = some (.int .i64 (L : Nat)) := by rw [hX]; exact Xaa k2 _
 have hgr : X.heap[g]? = some (.cells #[.int .i64 0, .string ⟨#[]⟩, .int .i64 0] 76 (0, 0)) := by rw [hX, hg]; exact Xgi _ _ _ _
 have hRg : R < g := by rw [hg]; exact Xce c0
 obtain ⟨Y, hY⟩ : ∃ Y : World, Y = X.alloc (.cells #[.int .i64 0, .string (⟨#[]⟩), .int .i64 (L : Nat)] 76) := ⟨_, rfl⟩
 have y0 : Y.cell? ⟨R, 0, none⟩ = some (.slice (some ⟨tb, off, none⟩) (1) c) := by rw [hY]; exact Xaa x0 _
 have yz : Y.frozen? ⟨R, 0, none⟩ = false := by rw [hY]; exact Xdb x0 xz _
 have yr : Y.heap[g + 1]? = some (.cells #[.int .i64 0, .string (⟨#[]⟩), .int .i64 (L : Nat)] 76 (0, 0)) := by rw [hY, ← hsx]; exact Xgi _ _ _ _
 have yg : Y.heap[g]? = some (.cells #[.int .i64 0, .string ⟨#[]⟩, .int .i64 0] 76 (0, 0)) := by rw [hY, Below.heap_alloc _ _ _ (by omega)]; exact hgr
 have hby : Below w.heap.size w Y := by rw [hY]; exact ((by rw [hX]; exact Xae _ _ : Below w.heap.size w X)).alloc (by rw [hsx, ← hg]; omega) _
 obtain ⟨Z, hZ⟩ : ∃ Z : World, Z = Y.setCell ⟨R, 0, none⟩ (.slice (some ⟨tb, off + 3, none⟩) 0 (c - 1)) := ⟨_, rfl⟩
 have zr : Z.heap[g + 1]? = some (.cells #[.int .i64 0, .string (⟨#[]⟩), .int .i64 (L : Nat)] 76 (0, 0)) := by rw [hZ, Below.heap_setCell _ _ _ _ (by simp; omega)]; exact yr
 have zg : Z.heap[g]? = some (.cells #[.int .i64 0, .string ⟨#[]⟩, .int .i64 0] 76 (0, 0)) := by rw [hZ, Below.heap_setCell _ _ _ _ (by simp; omega)]; exact yg
 have z0 : Z.cell? ⟨g + 1, 0, none⟩ = some (.int .i64 0) := by rw [cell_of_row Z _ 0 _ _ (0, 0) zr]; rfl
 have z1 : Z.cell? ⟨g + 1, 1, none⟩ = some (.string (⟨#[]⟩)) := by rw [cell_of_row Z _ 1 _ _ (0, 0) zr]; rfl
 have z2 : Z.cell? ⟨g + 1, 2, none⟩ = some (.int .i64 (L : Nat)) := by rw [cell_of_row Z _ 2 _ _ (0, 0) zr]; rfl
 have f0 : Z.frozen? ⟨g, 0, none⟩ = false := frozen_of_row Z g 0 _ _ zg
 have f1 : Z.frozen? ⟨g, 1, none⟩ = false := frozen_of_row Z g 1 _ _ zg
 have f2 : Z.frozen? ⟨g, 2, none⟩ = false := frozen_of_row Z g 2 _ _ zg
 have m0 : Z.cell? ⟨g, 0, none⟩ = some (.int .i64 0) := by rw [cell_of_row Z _ 0 _ _ (0, 0) zg]; rfl
 have m1 : Z.cell? ⟨g, 1, none⟩ = some (.string ⟨#[]⟩) := by rw [cell_of_row Z _ 1 _ _ (0, 0) zg]; rfl
 have m2 : Z.cell? ⟨g, 2, none⟩ = some (.int .i64 0) := by rw [cell_of_row Z _ 2 _ _ (0, 0) zg]; rfl
 have HFIN : Hid (∀ w', Below w.heap.size Z w' → Chg (fun b => b = R) w w') := lh fun w' hb => by
  have hk : ∀ b, b < w.heap.size → b ≠ R → w'.heap[b]? = w.heap[b]? := fun b hlt hne => (hb.block b hlt).trans (by rw [hZ, Below.heap_setCell _ _ _ _ (by simpa using hne)]; exact hby.block b hlt)
  refine ⟨?_, ?_, ?_, ?_, fun k hlt hn => hk k hlt hn⟩
  · rw [hb.os, hZ]; exact hby.os
  · rw [hb.tape, hZ]; exact hby.tape
  · rw [hb.output, hZ]; exact hby.output
  · have := hb.size; have := hby.size; rw [hZ] at *; simp [World.setCell] at *; omega
 clear h h1 c0 k0 k1 k2 az hby hgr yr yg zr zg xz hRg
 subst hZ hY hX hg
 go_enter Tryz.func53, Tryz.ntmps53
 go_wp2
 refine bodyPost_ret (v := .agg #[.int .i64 0, .string (⟨#[]⟩), .int .i64 (L : Nat)]) ?_ rfl ⟨rfl, HFIN.out _ ?_⟩
 · simp [results, Tryz.results53, go_sem, m0, m1, m2]
 · refine Below.setCell ?_ (by simp) _
   refine Below.setCell ?_ (by simp) _
   refine Below.setCell ?_ (by simp) _
   exact Below.refl _ _
theorem pop_end {w : World} {B R L : Nat} (h : RdAt w B R L []) (hB : B ≤ w.heap.size) :
  Calls Tryz.prog 53 #[.pointer (some ⟨R, 0, none⟩)] w fun e w' => e = .returned (.agg #[.int .i64 0, .string ⟨#[]⟩, .int .i64 (L : Nat)]) ∧ Chg (fun b => b = R) w w' := by
 obtain ⟨tb, off, c, n, hn, h1, h2, h3, h4, h5, h6, k0, k1, k2⟩ := h.head
 subst hn
 by_cases hc : c = 1
 · exact pop_end1 h hB (by rw [hc] at h1; exact h1) hc h3 k0 k1 k2
 · exact pop_end2 h hB h1 (by simp at h2; omega) h3 k0 k1 k2
def EndPost (w : World) (R : Nat) (us : List Tok) (e : Ending) (w' : World) : Prop := match us with
 | [] => (∃ v, e = .returned v) ∧ Chg (fun b => b = R) w w'
 | t :: _ => e = Xag t.pl 20 ∧ Chg (fun b => b = R) w w'
theorem take_end {w : World} {B R L : Nat} {us : List Tok} (h : RdAt w B R L us) (hB : B ≤ w.heap.size) :
  Calls Tryz.prog 50 #[.pointer (some ⟨R, 0, none⟩), .slice (some ⟨w.heap.size, 0, none⟩) 1 1] (w.alloc (.cells #[.string ⟨#[]⟩] 9)) (EndPost w R us) := by
 obtain ⟨X, hX⟩ : ∃ X : World, X = w.alloc (.cells (#[.string ⟨#[]⟩]) 9) := ⟨_, rfl⟩
 obtain ⟨Y, hY⟩ : ∃ Y : World, Y = X.alloc (.cells #[.int .i64 0, .string ⟨#[]⟩, .int .i64 0] 76) := ⟨_, rfl⟩
 have hbX : Below w.heap.size w X := by rw [hX]; exact Xae _ _
 have hbXY : Below X.heap.size X Y := by rw [hY]; exact Xae _ _
 have hbY : Below w.heap.size w Y := hbX.trans (hbXY.mono hbX.size)
 have hXs : X.heap[w.heap.size]? = some (.cells (#[.string ⟨#[]⟩]) 9 (0, 0)) := by rw [hX]; exact heap_alloc_new _ _
 have hYs := (hbXY.block _ (Xac hXs)).trans hXs
 have hYg : Y.heap[X.heap.size]? = some (.cells #[.int .i64 0, .string ⟨#[]⟩, .int .i64 0] 76 (0, 0)) := by rw [hY]; exact Xgi _ _ _ _
 have hRY := h.below' hB hbY
 have hBY : B ≤ Y.heap.size := Nat.le_trans hB hbY.size
 have HNX := lh (Xeg hRY)
 have HCON : Hid (∀ wx, Below Y.heap.size Y wx → Calls Tryz.prog 77 #[.slice (some ⟨w.heap.size, 0, none⟩) 1 1, .string (Xab (tx us))] wx fun e w' => e = .returned (.bool (decide (tx us = []))) ∧ w' = wx) := lh fun wx hb => by
  have hx := (hb.block _ (Xac hYs)).trans hYs
  have := slices_Contains_string w.heap.size 0 1 1 [⟨#[]⟩] (Xab (tx us)) wx (by simp) (by omega) (fun j hj => by
   rw [Nat.zero_add, cell_of_row _ _ j _ _ (0, 0) hx]
   obtain rfl : j = 0 := by simpa using hj
   rfl)
  rw [List.take_of_length_le (by simp)] at this
  have e9 : Lib.containsS [⟨#[]⟩] (Xab (tx us)) = decide (tx us = []) := by
   have := Xnb [[]] (tx us)
   show Lib.containsS [Xab []] (Xab (tx us)) = _
   simpa using this
  rw [e9] at this
  exact this
 have HRY := lh hRY
 have HBB := lh hBY
 have HY0 := lh hbY
 have HG := lh hYg
 have HXB := lh hbX
 have hf := Xdn
 have hgR : X.heap.size ≠ R := fun e => by have := h.lt; have := hbX.size; omega
 have HGR := lh hgR
 have hX1 := lh hX
 have hY1 := lh hY
 obtain ⟨K, hK⟩ : ∃ K : Int, K = (kd us : Nat) := ⟨_, rfl⟩
 obtain ⟨P, hP⟩ : ∃ P : Int, P = (plc L us : Nat) := ⟨_, rfl⟩
 rw [← hK, ← hP] at HNX
 have hBw : B ≤ X.heap.size := Nat.le_trans hB hbX.size
 have HBX := lh hBw
 rw [← hX]
 cases us with
 | nil =>
    have hd : decide (tx [] = []) = true := by decide
    rw [hd] at HCON
    clear hX hY hbX hbXY hbY hXs hYs hYg hRY hBY hK hP hgR h hd hBw
    go_enter Tryz.func50, Tryz.ntmps50
    go_wp2_with fail
    rw [← hY1.out]
    refine HNX.out.mono ?_
    rintro e w1 ⟨rfl, hb⟩
    have HB1 := lh hb
    clear hb
    go_wp2_with fail
    refine (HCON.out w1 HB1.out).mono ?_
    rintro e w2 ⟨rfl, rfl⟩
    go_wp2_with fail
    refine (Xcb _ _ _).mono ?_
    rintro e w2 ⟨rfl, rfl⟩
    go_wp2_with fail
    refine (pop_end (HRY.out.below' HBB.out HB1.out) (Nat.le_trans HBB.out HB1.out.size)).mono ?_
    rintro e w2 ⟨rfl, hc⟩
    obtain ⟨m0, m1, m2, f0, f1, f2⟩ := row3 (hc.row ((HB1.out.block _ (Xac HG.out)).trans HG.out) HGR.out)
    have HC := lh (Xbf (HY0.out.trans (HB1.out.mono HY0.out.size)) hc)
    clear hc
    go_wp2
    refine bodyPost_ret (v := .agg #[.int .i64 0, .string ⟨#[]⟩, .int .i64 (L : Nat)]) ?_ rfl ?_
    · simp [results, Tryz.results50, go_sem, m0, m1, m2]
    · exact ⟨⟨_, rfl⟩, Xia (Xia (Xia HC.out HXB.out.size _) HXB.out.size _) HXB.out.size _⟩
 | cons t r =>
    have hd : decide (tx (t :: r) = []) = false := decide_eq_false (h.ok t (by simp)).1
    rw [hd] at HCON
    clear hX hY hbX hbXY hbY hXs hYs hYg hRY hBY hK hP hgR h hd hBw
    go_enter Tryz.func50, Tryz.ntmps50
    go_wp2_with fail
    rw [← hY1.out]
    refine HNX.out.mono ?_
    rintro e w1 ⟨rfl, hb⟩
    have HB1 := lh hb
    clear hb
    go_wp2_with fail
    refine (HCON.out w1 HB1.out).mono ?_
    rintro e w2 ⟨rfl, rfl⟩
    go_wp2_with fail
    refine (Xel (HRY.out.below' HBB.out HB1.out) 20).mono ?_
    rintro e w2 ⟨rfl, hb⟩
    have HB2 := lh (HY0.out.trans ((HB1.out.trans (hb.mono HB1.out.size)).mono HY0.out.size))
    clear hb
    unfold Xag
    go_wp2
    exact ⟨rfl, rfl, Chg.of_below HB2.out⟩
end Go.Proofs.YtbckeljbpknbdaaGreatDoor
