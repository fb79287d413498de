/- Package code: the highest numbers that fields may have. -/
import Derived.Test.YtgohnlcgidmlfaaDoorMeh
set_option linter.unusedVariables false
set_option linter.unusedSimpArgs false
namespace Go.Proofs.YtgohnlcgidmlfaaDoor
open Go.RowKit

/-- the highest numbers of the fields, and whether there is such a kind -/
def hiL (r wd ni nh ns nl nc no kd : Int) : List Int × Bool :=
  if kd = 1 then ([r, 0, 0, 0, 0, 0], true)
  else if kd = 21 then ([r, 0, 0, 0, 0, 0], true)
  else if kd = 2 then ([r, ni, 0, 0, 0, 0], true)
  else if kd = 3 then ([r, nh, 0, 0, 0, 0], true)
  else if kd = 4 then ([r, r, 0, 0, 0, 0], true)
  else if kd = 5 then ([r, r, 0, 0, 0, 0], true)
  else if kd = 6 then ([r, r, r, 0, 0, 0], true)
  else if kd = 10 then ([r, r, r, 0, 0, 0], true)
  else if kd = 7 then ([r, wd, 0, 0, 0, 0], true)
  else if kd = 8 then ([wd, r, 0, 0, 0, 0], true)
  else if kd = 9 then ([r, ns, 0, 0, 0, 0], true)
  else if kd = 11 then ([r, r, 15, 0, 0, 0], true)
  else if kd = 12 then ([r, 15, r, 0, 0, 0], true)
  else if kd = 13 then ([r, r, r, r, 0, 0], true)
  else if kd = 14 then ([r, r, r, r, 0, 0], true)
  else if kd = 15 then ([r, r, r, r, r, r], true)
  else if kd = 16 then ([nl, 0, 0, 0, 0, 0], true)
  else if kd = 17 then ([nl, 0, 0, 0, 0, 0], true)
  else if kd = 18 then ([nc, r, 0, 0, 0, 0], true)
  else if kd = 19 then ([r, nc, 0, 0, 0, 0], true)
  else if kd = 20 then ([no, r, 0, 0, 0, 0], true)
  else if kd = 23 then ([0, 0, 0, 0, 0, 0], true)
  else ([0, 0, 0, 0, 0, 0], false)
def hiM (m : Mo) (F : Fn) (n kd : Int) : List Int × Bool := hiL (F.regs - 1) (n - 1) ((m.inputs.length : Int) - 1) ((m.hatches.length : Int) - 1) ((m.structs.length : Int) - 1) ((m.locks.length : Int) - 1) ((m.chans.length : Int) - 1) ((m.sinks.length : Int) - 1) kd
def hiV (p : List Int × Bool) : Value := .tuple #[.agg (p.1.map (Value.int .i64)).toArray, .bool p.2]
theorem six_cells {w : World} {g : Nat} (h : w.heap[g]? = some (.cells #[.int .i64 0, .int .i64 0, .int .i64 0, .int .i64 0, .int .i64 0, .int .i64 0] 86 (0, 0))) :
    w.cell? ⟨g, 0, none⟩ = some (.int .i64 0) ∧ w.cell? ⟨g, 1, none⟩ = some (.int .i64 0) ∧ w.cell? ⟨g, 2, none⟩ = some (.int .i64 0) ∧ w.cell? ⟨g, 3, none⟩ = some (.int .i64 0) ∧ w.cell? ⟨g, 4, none⟩ = some (.int .i64 0) ∧ w.cell? ⟨g, 5, none⟩ = some (.int .i64 0) ∧ w.frozen? ⟨g, 0, none⟩ = false ∧ w.frozen? ⟨g, 1, none⟩ = false ∧ w.frozen? ⟨g, 2, none⟩ = false ∧ w.frozen? ⟨g, 3, none⟩ = false ∧ w.frozen? ⟨g, 4, none⟩ = false ∧ w.frozen? ⟨g, 5, none⟩ = false := by
  have hc : ∀ j, w.cell? ⟨g, j, none⟩ = (#[.int .i64 0, .int .i64 0, .int .i64 0, .int .i64 0, .int .i64 0, .int .i64 0] : Array Value)[j]? := fun j => cell_of_row w g j _ _ (0, 0) h
  have hf : ∀ j, w.frozen? ⟨g, j, none⟩ = false := fun j => frozen_of_row w g j _ _ h
  exact ⟨hc 0, hc 1, hc 2, hc 3, hc 4, hc 5, hf 0, hf 1, hf 2, hf 3, hf 4, hf 5⟩

set_option maxHeartbeats 8000000 in
set_option maxRecDepth 100000 in
theorem highest_any {w : World} {m : Mo} {v : Vm} {F : Fn} {u : Value} {n : Int} (hb : BdOk w m v F u n) (kd : Int) :
    Calls Tryd.prog 65 #[.agg #[v.g, v.s, v.c, v.l, v.i, v.o, v.h, v.f, v.t, .string (bs F.name), .int .i64 F.params, .int .i64 F.regs, .int .i64 F.result, u, .int .i64 n], .int .i64 kd] w fun e w' => e = .returned (hiV (hiM m F n kd)) ∧ Below w.heap.size w w' := by
  obtain ⟨A1, c1, e1, -, hl1⟩ := hb.mo.s.form
  obtain ⟨A2, c2, e2, -, hl2⟩ := hb.mo.c.form
  obtain ⟨A3, c3, e3, -, hl3⟩ := hb.mo.l.form
  obtain ⟨A4, c4, e4, -, hl4⟩ := hb.mo.i.form
  obtain ⟨A5, c5, e5, -, hl5⟩ := hb.mo.o.form
  obtain ⟨A6, c6, e6, -, hl6⟩ := hb.mo.h.form
  obtain ⟨n1, hn1⟩ : ∃ n, n = m.structs.length := ⟨_, rfl⟩
  obtain ⟨n2, hn2⟩ : ∃ n, n = m.chans.length := ⟨_, rfl⟩
  obtain ⟨n3, hn3⟩ : ∃ n, n = m.locks.length := ⟨_, rfl⟩
  obtain ⟨n4, hn4⟩ : ∃ n, n = m.inputs.length := ⟨_, rfl⟩
  obtain ⟨n5, hn5⟩ : ∃ n, n = m.sinks.length := ⟨_, rfl⟩
  obtain ⟨n6, hn6⟩ : ∃ n, n = m.hatches.length := ⟨_, rfl⟩
  obtain ⟨A9, c9, rfl, -, hl9⟩ := hb.code.form
  have hrg := fnB_iff hb.fn
  have hw := hb.words
  obtain ⟨X, hX⟩ : ∃ X : World, X = (w.alloc (.cells #[v.g, v.s, v.c, v.l, v.i, v.o, v.h, v.f, v.t, .string (bs F.name), .int .i64 F.params, .int .i64 F.regs, .int .i64 F.result, .slice A9 F.code.length c9, .int .i64 n] 72)).alloc (.cells #[.int .i64 0, .int .i64 0, .int .i64 0, .int .i64 0, .int .i64 0, .int .i64 0] 86) := ⟨_, rfl⟩
  have hxb : Below w.heap.size w X := by rw [hX]; exact ((Below.refl _ w).alloc (Nat.le_refl _) _).alloc (by simp) _
  have hx1 : BdBlk X w.heap.size v F (.slice A9 F.code.length c9) n := by rw [hX]; exact (Below.heap_alloc _ _ _ (by simp)).trans (heap_alloc_new w _)
  have hx2 : X.heap[w.heap.size + 1]? = some (.cells #[.int .i64 0, .int .i64 0, .int .i64 0, .int .i64 0, .int .i64 0, .int .i64 0] 86 (0, 0)) := by
    have := heap_alloc_new (w.alloc (.cells #[v.g, v.s, v.c, v.l, v.i, v.o, v.h, v.f, v.t, .string (bs F.name), .int .i64 F.params, .int .i64 F.regs, .int .i64 F.result, .slice A9 F.code.length c9, .int .i64 n] 72)) (.cells #[.int .i64 0, .int .i64 0, .int .i64 0, .int .i64 0, .int .i64 0, .int .i64 0] 86)
    rw [asz] at this
    rw [hX]
    exact this
  have k11 : X.cell? ⟨w.heap.size, 11, none⟩ = some (.int .i64 F.regs) := hx1.cell 11
  have k14 : X.cell? ⟨w.heap.size, 14, none⟩ = some (.int .i64 n) := hx1.cell 14
  obtain ⟨r, hr⟩ : ∃ r, r = F.regs - 1 := ⟨_, rfl⟩
  obtain ⟨wd, hwd⟩ : ∃ r, r = n - 1 := ⟨_, rfl⟩
  have x1 : IntKind.i64.wrap (F.regs - 1) = r := by rw [hr]; exact IntWalk.i64_in _ (by omega)
  have x2 : IntKind.i64.wrap (n - 1) = wd := by rw [hwd]; exact IntWalk.i64_in _ (by omega)
  have HM : Hid (∀ kd, hiM m F n kd = hiL r wd ((n4 : Int) - 1) ((n6 : Int) - 1) ((n1 : Int) - 1) ((n3 : Int) - 1) ((n2 : Int) - 1) ((n5 : Int) - 1) kd) := Lib.hid (fun kd => by rw [hr, hwd, hn1, hn2, hn3, hn4, hn5, hn6]; rfl)
  rw [← hn1] at e1 hl1
  rw [← hn2] at e2 hl2
  rw [← hn3] at e3 hl3
  rw [← hn4] at e4 hl4
  rw [← hn5] at e5 hl5
  rw [← hn6] at e6 hl6
  have HX := Lib.hid hX
  have HXB := Lib.hid hxb
  have HX1 := Lib.hid hx1
  have HX2 := Lib.hid hx2
  have HE := Lib.hid (And.intro e1 (And.intro e2 (And.intro e3 (And.intro e4 (And.intro e5 e6)))))
  clear hX hxb hx1 hx2 hn1 hn2 hn3 hn4 hn5 hn6 hr hwd hrg hw hb e1 e2 e3 e4 e5 e6
  go_enter Tryd.func65, Tryd.ntmps65
  go_wp2
  rw [← HX.out]
  go_quiet (fail)
  generalize hwq : X.drewN _ = wq
  have hdq : Drawn X wq := ⟨_, hwq.symm⟩
  have hh := hdq.heap
  have HBQ := Lib.hid (HXB.out.trans hdq.below)
  have hq1 : BdBlk wq w.heap.size v F (.slice A9 F.code.length c9) n := (congrArg (·[w.heap.size]?) hh).trans HX1.out
  have hq2 := (congrArg (·[w.heap.size + 1]?) hh).trans HX2.out
  obtain ⟨z0, z1, z2, z3, z4, z5, y0, y1, y2, y3, y4, y5⟩ := six_cells hq2
  have m1 : wq.cell? ⟨w.heap.size, 1, none⟩ = some (.slice A1 n1 c1) := by rw [← HE.out.1]; exact hq1.cell 1
  have m2 : wq.cell? ⟨w.heap.size, 2, none⟩ = some (.slice A2 n2 c2) := by rw [← HE.out.2.1]; exact hq1.cell 2
  have m3 : wq.cell? ⟨w.heap.size, 3, none⟩ = some (.slice A3 n3 c3) := by rw [← HE.out.2.2.1]; exact hq1.cell 3
  have m4 : wq.cell? ⟨w.heap.size, 4, none⟩ = some (.slice A4 n4 c4) := by rw [← HE.out.2.2.2.1]; exact hq1.cell 4
  have m5 : wq.cell? ⟨w.heap.size, 5, none⟩ = some (.slice A5 n5 c5) := by rw [← HE.out.2.2.2.2.1]; exact hq1.cell 5
  have m6 : wq.cell? ⟨w.heap.size, 6, none⟩ = some (.slice A6 n6 c6) := by rw [← HE.out.2.2.2.2.2]; exact hq1.cell 6
  have t1 := IntWalk.i64_in ((n1 : Int) - 1) (by omega)
  have t2 := IntWalk.i64_in ((n2 : Int) - 1) (by omega)
  have t3 := IntWalk.i64_in ((n3 : Int) - 1) (by omega)
  have t4 := IntWalk.i64_in ((n4 : Int) - 1) (by omega)
  have t5 := IntWalk.i64_in ((n5 : Int) - 1) (by omega)
  have t6 := IntWalk.i64_in ((n6 : Int) - 1) (by omega)
  clear hwq hdq hh hq1 hq2 x1 x2 k11 k14 HX1 HX2 HE
  by_cases h1 : kd = 1
  · subst h1
    have HV : Hid (hiM m F n 1 = ([r, 0, 0, 0, 0, 0], true)) := Lib.hid (by rw [HM.out]; unfold hiL; simp)
    clear HM
    go_wp2
    refine bodyPost_ret (v := .tuple #[.agg #[.int .i64 (r), .int .i64 (0), .int .i64 (0), .int .i64 (0), .int .i64 (0), .int .i64 (0)], .bool true]) (by simp [results, Tryd.results65, go_sem, z0, z1, z2, z3, z4, z5]) rfl ⟨?_, ?_⟩
    · rw [HV.out]; rfl
    · exact (((((HBQ.out.setCell (by simp) _).setCell (by simp) _).setCell (by simp) _).setCell (by simp) _).setCell (by simp) _).setCell (by simp) _
  · have g1 : (kd != 1) = true := by simpa using h1
    by_cases h21 : kd = 21
    · subst h21
      have HV : Hid (hiM m F n 21 = ([r, 0, 0, 0, 0, 0], true)) := Lib.hid (by rw [HM.out]; unfold hiL; simp)
      clear HM
      go_wp2
      refine bodyPost_ret (v := .tuple #[.agg #[.int .i64 (r), .int .i64 (0), .int .i64 (0), .int .i64 (0), .int .i64 (0), .int .i64 (0)], .bool true]) (by simp [results, Tryd.results65, go_sem, z0, z1, z2, z3, z4, z5]) rfl ⟨?_, ?_⟩
      · rw [HV.out]; rfl
      · exact (((((HBQ.out.setCell (by simp) _).setCell (by simp) _).setCell (by simp) _).setCell (by simp) _).setCell (by simp) _).setCell (by simp) _
    · have g21 : (kd != 21) = true := by simpa using h21
      by_cases h2 : kd = 2
      · subst h2
        have HV : Hid (hiM m F n 2 = ([r, (n4 : Int) - 1, 0, 0, 0, 0], true)) := Lib.hid (by rw [HM.out]; unfold hiL; simp)
        clear HM
        go_wp2
        refine bodyPost_ret (v := .tuple #[.agg #[.int .i64 (r), .int .i64 ((n4 : Int) - 1), .int .i64 (0), .int .i64 (0), .int .i64 (0), .int .i64 (0)], .bool true]) (by simp [results, Tryd.results65, go_sem, z0, z1, z2, z3, z4, z5]) rfl ⟨?_, ?_⟩
        · rw [HV.out]; rfl
        · exact (((((HBQ.out.setCell (by simp) _).setCell (by simp) _).setCell (by simp) _).setCell (by simp) _).setCell (by simp) _).setCell (by simp) _
      · have g2 : (kd != 2) = true := by simpa using h2
        by_cases h3 : kd = 3
        · subst h3
          have HV : Hid (hiM m F n 3 = ([r, (n6 : Int) - 1, 0, 0, 0, 0], true)) := Lib.hid (by rw [HM.out]; unfold hiL; simp)
          clear HM
          go_wp2
          refine bodyPost_ret (v := .tuple #[.agg #[.int .i64 (r), .int .i64 ((n6 : Int) - 1), .int .i64 (0), .int .i64 (0), .int .i64 (0), .int .i64 (0)], .bool true]) (by simp [results, Tryd.results65, go_sem, z0, z1, z2, z3, z4, z5]) rfl ⟨?_, ?_⟩
          · rw [HV.out]; rfl
          · exact (((((HBQ.out.setCell (by simp) _).setCell (by simp) _).setCell (by simp) _).setCell (by simp) _).setCell (by simp) _).setCell (by simp) _
        · have g3 : (kd != 3) = true := by simpa using h3
          by_cases h4 : kd = 4
          · subst h4
            have HV : Hid (hiM m F n 4 = ([r, r, 0, 0, 0, 0], true)) := Lib.hid (by rw [HM.out]; unfold hiL; simp)
            clear HM
            go_wp2
            refine bodyPost_ret (v := .tuple #[.agg #[.int .i64 (r), .int .i64 (r), .int .i64 (0), .int .i64 (0), .int .i64 (0), .int .i64 (0)], .bool true]) (by simp [results, Tryd.results65, go_sem, z0, z1, z2, z3, z4, z5]) rfl ⟨?_, ?_⟩
            · rw [HV.out]; rfl
            · exact (((((HBQ.out.setCell (by simp) _).setCell (by simp) _).setCell (by simp) _).setCell (by simp) _).setCell (by simp) _).setCell (by simp) _
          · have g4 : (kd != 4) = true := by simpa using h4
            by_cases h5 : kd = 5
            · subst h5
              have HV : Hid (hiM m F n 5 = ([r, r, 0, 0, 0, 0], true)) := Lib.hid (by rw [HM.out]; unfold hiL; simp)
              clear HM
              go_wp2
              refine bodyPost_ret (v := .tuple #[.agg #[.int .i64 (r), .int .i64 (r), .int .i64 (0), .int .i64 (0), .int .i64 (0), .int .i64 (0)], .bool true]) (by simp [results, Tryd.results65, go_sem, z0, z1, z2, z3, z4, z5]) rfl ⟨?_, ?_⟩
              · rw [HV.out]; rfl
              · exact (((((HBQ.out.setCell (by simp) _).setCell (by simp) _).setCell (by simp) _).setCell (by simp) _).setCell (by simp) _).setCell (by simp) _
            · have g5 : (kd != 5) = true := by simpa using h5
              by_cases h6 : kd = 6
              · subst h6
                have HV : Hid (hiM m F n 6 = ([r, r, r, 0, 0, 0], true)) := Lib.hid (by rw [HM.out]; unfold hiL; simp)
                clear HM
                go_wp2
                refine bodyPost_ret (v := .tuple #[.agg #[.int .i64 (r), .int .i64 (r), .int .i64 (r), .int .i64 (0), .int .i64 (0), .int .i64 (0)], .bool true]) (by simp [results, Tryd.results65, go_sem, z0, z1, z2, z3, z4, z5]) rfl ⟨?_, ?_⟩
                · rw [HV.out]; rfl
                · exact (((((HBQ.out.setCell (by simp) _).setCell (by simp) _).setCell (by simp) _).setCell (by simp) _).setCell (by simp) _).setCell (by simp) _
              · have g6 : (kd != 6) = true := by simpa using h6
                by_cases h10 : kd = 10
                · subst h10
                  have HV : Hid (hiM m F n 10 = ([r, r, r, 0, 0, 0], true)) := Lib.hid (by rw [HM.out]; unfold hiL; simp)
                  clear HM
                  go_wp2
                  refine bodyPost_ret (v := .tuple #[.agg #[.int .i64 (r), .int .i64 (r), .int .i64 (r), .int .i64 (0), .int .i64 (0), .int .i64 (0)], .bool true]) (by simp [results, Tryd.results65, go_sem, z0, z1, z2, z3, z4, z5]) rfl ⟨?_, ?_⟩
                  · rw [HV.out]; rfl
                  · exact (((((HBQ.out.setCell (by simp) _).setCell (by simp) _).setCell (by simp) _).setCell (by simp) _).setCell (by simp) _).setCell (by simp) _
                · have g10 : (kd != 10) = true := by simpa using h10
                  by_cases h7 : kd = 7
                  · subst h7
                    have HV : Hid (hiM m F n 7 = ([r, wd, 0, 0, 0, 0], true)) := Lib.hid (by rw [HM.out]; unfold hiL; simp)
                    clear HM
                    go_wp2
                    refine bodyPost_ret (v := .tuple #[.agg #[.int .i64 (r), .int .i64 (wd), .int .i64 (0), .int .i64 (0), .int .i64 (0), .int .i64 (0)], .bool true]) (by simp [results, Tryd.results65, go_sem, z0, z1, z2, z3, z4, z5]) rfl ⟨?_, ?_⟩
                    · rw [HV.out]; rfl
                    · exact (((((HBQ.out.setCell (by simp) _).setCell (by simp) _).setCell (by simp) _).setCell (by simp) _).setCell (by simp) _).setCell (by simp) _
                  · have g7 : (kd != 7) = true := by simpa using h7
                    by_cases h8 : kd = 8
                    · subst h8
                      have HV : Hid (hiM m F n 8 = ([wd, r, 0, 0, 0, 0], true)) := Lib.hid (by rw [HM.out]; unfold hiL; simp)
                      clear HM
                      go_wp2
                      refine bodyPost_ret (v := .tuple #[.agg #[.int .i64 (wd), .int .i64 (r), .int .i64 (0), .int .i64 (0), .int .i64 (0), .int .i64 (0)], .bool true]) (by simp [results, Tryd.results65, go_sem, z0, z1, z2, z3, z4, z5]) rfl ⟨?_, ?_⟩
                      · rw [HV.out]; rfl
                      · exact (((((HBQ.out.setCell (by simp) _).setCell (by simp) _).setCell (by simp) _).setCell (by simp) _).setCell (by simp) _).setCell (by simp) _
                    · have g8 : (kd != 8) = true := by simpa using h8
                      by_cases h9 : kd = 9
                      · subst h9
                        have HV : Hid (hiM m F n 9 = ([r, (n1 : Int) - 1, 0, 0, 0, 0], true)) := Lib.hid (by rw [HM.out]; unfold hiL; simp)
                        clear HM
                        go_wp2
                        refine bodyPost_ret (v := .tuple #[.agg #[.int .i64 (r), .int .i64 ((n1 : Int) - 1), .int .i64 (0), .int .i64 (0), .int .i64 (0), .int .i64 (0)], .bool true]) (by simp [results, Tryd.results65, go_sem, z0, z1, z2, z3, z4, z5]) rfl ⟨?_, ?_⟩
                        · rw [HV.out]; rfl
                        · exact (((((HBQ.out.setCell (by simp) _).setCell (by simp) _).setCell (by simp) _).setCell (by simp) _).setCell (by simp) _).setCell (by simp) _
                      · have g9 : (kd != 9) = true := by simpa using h9
                        by_cases h11 : kd = 11
                        · subst h11
                          have HV : Hid (hiM m F n 11 = ([r, r, 15, 0, 0, 0], true)) := Lib.hid (by rw [HM.out]; unfold hiL; simp)
                          clear HM
                          go_wp2
                          refine bodyPost_ret (v := .tuple #[.agg #[.int .i64 (r), .int .i64 (r), .int .i64 (15), .int .i64 (0), .int .i64 (0), .int .i64 (0)], .bool true]) (by simp [results, Tryd.results65, go_sem, z0, z1, z2, z3, z4, z5]) rfl ⟨?_, ?_⟩
                          · rw [HV.out]; rfl
                          · exact (((((HBQ.out.setCell (by simp) _).setCell (by simp) _).setCell (by simp) _).setCell (by simp) _).setCell (by simp) _).setCell (by simp) _
                        · have g11 : (kd != 11) = true := by simpa using h11
                          by_cases h12 : kd = 12
                          · subst h12
                            have HV : Hid (hiM m F n 12 = ([r, 15, r, 0, 0, 0], true)) := Lib.hid (by rw [HM.out]; unfold hiL; simp)
                            clear HM
                            go_wp2
                            refine bodyPost_ret (v := .tuple #[.agg #[.int .i64 (r), .int .i64 (15), .int .i64 (r), .int .i64 (0), .int .i64 (0), .int .i64 (0)], .bool true]) (by simp [results, Tryd.results65, go_sem, z0, z1, z2, z3, z4, z5]) rfl ⟨?_, ?_⟩
                            · rw [HV.out]; rfl
                            · exact (((((HBQ.out.setCell (by simp) _).setCell (by simp) _).setCell (by simp) _).setCell (by simp) _).setCell (by simp) _).setCell (by simp) _
                          · have g12 : (kd != 12) = true := by simpa using h12
                            by_cases h13 : kd = 13
                            · subst h13
                              have HV : Hid (hiM m F n 13 = ([r, r, r, r, 0, 0], true)) := Lib.hid (by rw [HM.out]; unfold hiL; simp)
                              clear HM
                              go_wp2
                              refine bodyPost_ret (v := .tuple #[.agg #[.int .i64 (r), .int .i64 (r), .int .i64 (r), .int .i64 (r), .int .i64 (0), .int .i64 (0)], .bool true]) (by simp [results, Tryd.results65, go_sem, z0, z1, z2, z3, z4, z5]) rfl ⟨?_, ?_⟩
                              · rw [HV.out]; rfl
                              · exact (((((HBQ.out.setCell (by simp) _).setCell (by simp) _).setCell (by simp) _).setCell (by simp) _).setCell (by simp) _).setCell (by simp) _
                            · have g13 : (kd != 13) = true := by simpa using h13
                              by_cases h14 : kd = 14
                              · subst h14
                                have HV : Hid (hiM m F n 14 = ([r, r, r, r, 0, 0], true)) := Lib.hid (by rw [HM.out]; unfold hiL; simp)
                                clear HM
                                go_wp2
                                refine bodyPost_ret (v := .tuple #[.agg #[.int .i64 (r), .int .i64 (r), .int .i64 (r), .int .i64 (r), .int .i64 (0), .int .i64 (0)], .bool true]) (by simp [results, Tryd.results65, go_sem, z0, z1, z2, z3, z4, z5]) rfl ⟨?_, ?_⟩
                                · rw [HV.out]; rfl
                                · exact (((((HBQ.out.setCell (by simp) _).setCell (by simp) _).setCell (by simp) _).setCell (by simp) _).setCell (by simp) _).setCell (by simp) _
                              · have g14 : (kd != 14) = true := by simpa using h14
                                by_cases h15 : kd = 15
                                · subst h15
                                  have HV : Hid (hiM m F n 15 = ([r, r, r, r, r, r], true)) := Lib.hid (by rw [HM.out]; unfold hiL; simp)
                                  clear HM
                                  go_wp2
                                  refine bodyPost_ret (v := .tuple #[.agg #[.int .i64 (r), .int .i64 (r), .int .i64 (r), .int .i64 (r), .int .i64 (r), .int .i64 (r)], .bool true]) (by simp [results, Tryd.results65, go_sem, z0, z1, z2, z3, z4, z5]) rfl ⟨?_, ?_⟩
                                  · rw [HV.out]; rfl
                                  · exact (((((HBQ.out.setCell (by simp) _).setCell (by simp) _).setCell (by simp) _).setCell (by simp) _).setCell (by simp) _).setCell (by simp) _
                                · have g15 : (kd != 15) = true := by simpa using h15
                                  by_cases h16 : kd = 16
                                  · subst h16
                                    have HV : Hid (hiM m F n 16 = ([(n3 : Int) - 1, 0, 0, 0, 0, 0], true)) := Lib.hid (by rw [HM.out]; unfold hiL; simp)
                                    clear HM
                                    go_wp2
                                    refine bodyPost_ret (v := .tuple #[.agg #[.int .i64 ((n3 : Int) - 1), .int .i64 (0), .int .i64 (0), .int .i64 (0), .int .i64 (0), .int .i64 (0)], .bool true]) (by simp [results, Tryd.results65, go_sem, z0, z1, z2, z3, z4, z5]) rfl ⟨?_, ?_⟩
                                    · rw [HV.out]; rfl
                                    · exact (((((HBQ.out.setCell (by simp) _).setCell (by simp) _).setCell (by simp) _).setCell (by simp) _).setCell (by simp) _).setCell (by simp) _
                                  · have g16 : (kd != 16) = true := by simpa using h16
                                    by_cases h17 : kd = 17
                                    · subst h17
                                      have HV : Hid (hiM m F n 17 = ([(n3 : Int) - 1, 0, 0, 0, 0, 0], true)) := Lib.hid (by rw [HM.out]; unfold hiL; simp)
                                      clear HM
                                      go_wp2
                                      refine bodyPost_ret (v := .tuple #[.agg #[.int .i64 ((n3 : Int) - 1), .int .i64 (0), .int .i64 (0), .int .i64 (0), .int .i64 (0), .int .i64 (0)], .bool true]) (by simp [results, Tryd.results65, go_sem, z0, z1, z2, z3, z4, z5]) rfl ⟨?_, ?_⟩
                                      · rw [HV.out]; rfl
                                      · exact (((((HBQ.out.setCell (by simp) _).setCell (by simp) _).setCell (by simp) _).setCell (by simp) _).setCell (by simp) _).setCell (by simp) _
                                    · have g17 : (kd != 17) = true := by simpa using h17
                                      by_cases h18 : kd = 18
                                      · subst h18
                                        have HV : Hid (hiM m F n 18 = ([(n2 : Int) - 1, r, 0, 0, 0, 0], true)) := Lib.hid (by rw [HM.out]; unfold hiL; simp)
                                        clear HM
                                        go_wp2
                                        refine bodyPost_ret (v := .tuple #[.agg #[.int .i64 ((n2 : Int) - 1), .int .i64 (r), .int .i64 (0), .int .i64 (0), .int .i64 (0), .int .i64 (0)], .bool true]) (by simp [results, Tryd.results65, go_sem, z0, z1, z2, z3, z4, z5]) rfl ⟨?_, ?_⟩
                                        · rw [HV.out]; rfl
                                        · exact (((((HBQ.out.setCell (by simp) _).setCell (by simp) _).setCell (by simp) _).setCell (by simp) _).setCell (by simp) _).setCell (by simp) _
                                      · have g18 : (kd != 18) = true := by simpa using h18
                                        by_cases h19 : kd = 19
                                        · subst h19
                                          have HV : Hid (hiM m F n 19 = ([r, (n2 : Int) - 1, 0, 0, 0, 0], true)) := Lib.hid (by rw [HM.out]; unfold hiL; simp)
                                          clear HM
                                          go_wp2
                                          refine bodyPost_ret (v := .tuple #[.agg #[.int .i64 (r), .int .i64 ((n2 : Int) - 1), .int .i64 (0), .int .i64 (0), .int .i64 (0), .int .i64 (0)], .bool true]) (by simp [results, Tryd.results65, go_sem, z0, z1, z2, z3, z4, z5]) rfl ⟨?_, ?_⟩
                                          · rw [HV.out]; rfl
                                          · exact (((((HBQ.out.setCell (by simp) _).setCell (by simp) _).setCell (by simp) _).setCell (by simp) _).setCell (by simp) _).setCell (by simp) _
                                        · have g19 : (kd != 19) = true := by simpa using h19
                                          by_cases h20 : kd = 20
                                          · subst h20
                                            have HV : Hid (hiM m F n 20 = ([(n5 : Int) - 1, r, 0, 0, 0, 0], true)) := Lib.hid (by rw [HM.out]; unfold hiL; simp)
                                            clear HM
                                            go_wp2
                                            refine bodyPost_ret (v := .tuple #[.agg #[.int .i64 ((n5 : Int) - 1), .int .i64 (r), .int .i64 (0), .int .i64 (0), .int .i64 (0), .int .i64 (0)], .bool true]) (by simp [results, Tryd.results65, go_sem, z0, z1, z2, z3, z4, z5]) rfl ⟨?_, ?_⟩
                                            · rw [HV.out]; rfl
                                            · exact (((((HBQ.out.setCell (by simp) _).setCell (by simp) _).setCell (by simp) _).setCell (by simp) _).setCell (by simp) _).setCell (by simp) _
                                          · have g20 : (kd != 20) = true := by simpa using h20
                                            by_cases h23 : kd = 23
                                            · subst h23
                                              have HV : Hid (hiM m F n 23 = ([0, 0, 0, 0, 0, 0], true)) := Lib.hid (by rw [HM.out]; unfold hiL; simp)
                                              clear HM
                                              go_wp2
                                              refine bodyPost_ret (v := .tuple #[.agg #[.int .i64 (0), .int .i64 (0), .int .i64 (0), .int .i64 (0), .int .i64 (0), .int .i64 (0)], .bool true]) (by simp [results, Tryd.results65, go_sem, z0, z1, z2, z3, z4, z5]) rfl ⟨?_, ?_⟩
                                              · rw [HV.out]; rfl
                                              · exact (((((HBQ.out.setCell (by simp) _).setCell (by simp) _).setCell (by simp) _).setCell (by simp) _).setCell (by simp) _).setCell (by simp) _
                                            · have g23 : (kd != 23) = true := by simpa using h23
                                              have HV : Hid (hiM m F n kd = ([0, 0, 0, 0, 0, 0], false)) := Lib.hid (by rw [HM.out]; unfold hiL; simp [h1, h21, h2, h3, h4, h5, h6, h10, h7, h8, h9, h11, h12, h13, h14, h15, h16, h17, h18, h19, h20, h23])
                                              clear HM
                                              go_wp2
                                              refine bodyPost_ret (v := .tuple #[.agg #[.int .i64 (0), .int .i64 (0), .int .i64 (0), .int .i64 (0), .int .i64 (0), .int .i64 (0)], .bool false]) (by simp [results, Tryd.results65, go_sem, z0, z1, z2, z3, z4, z5]) rfl ⟨?_, ?_⟩
                                              · rw [HV.out]; rfl
                                              · exact (((((HBQ.out.setCell (by simp) _).setCell (by simp) _).setCell (by simp) _).setCell (by simp) _).setCell (by simp) _).setCell (by simp) _

end Go.Proofs.YtgohnlcgidmlfaaDoor
