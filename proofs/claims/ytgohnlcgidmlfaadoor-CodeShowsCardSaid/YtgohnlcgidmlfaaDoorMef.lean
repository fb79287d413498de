/- Package code: an operation's K, its result, its args, its ways. -/
import Derived.Test.YtgohnlcgidmlfaaDoorMee
import Derived.Deep.RegionHeld3
import Derived.BigQuiet
set_option linter.unusedVariables false
set_option linter.unusedSimpArgs false
namespace Go.Proofs.YtgohnlcgidmlfaaDoor
open Go.RowKit

def kB (kd k : Int) : Bool := if kd = 1 then true else if kd = 5 then rg 1 2 k else if kd = 6 then rg 1 11 k else if kd = 7 ∨ kd = 8 ∨ kd = 11 ∨ kd = 12 then rg 0 1 k else decide (k = 0)
def bodyArr (v : Vm) (f : Fn) (u : Value) (n : Int) : Array Value := #[v.g, v.s, v.c, v.l, v.i, v.o, v.h, v.f, v.t, .string (bs f.name), .int .i64 f.params, .int .i64 f.regs, .int .i64 f.result, u, .int .i64 n]
/-- block g is where an operation stands -/
def BdBlk (w : World) (g : Nat) (v : Vm) (f : Fn) (u : Value) (n : Int) : Prop := w.heap[g]? = some (.cells (bodyArr v f u n) 72 (0, 0))
theorem BdBlk.below {w w' : World} {g B : Nat} {v : Vm} {f : Fn} {u : Value} {n : Int} (h : BdBlk w g v f u n) (hb : Below B w w') (hg : g < B) : BdBlk w' g v f u n := (hb.block g hg).trans h
theorem BdBlk.cell {w : World} {g : Nat} {v : Vm} {f : Fn} {u : Value} {n : Int} (h : BdBlk w g v f u n) (j : Nat) : w.cell? ⟨g, j, none⟩ = (bodyArr v f u n)[j]? := cell_of_row w g j _ _ (0, 0) h

set_option maxHeartbeats 2000000 in
set_option maxRecDepth 100000 in
theorem kRight_any {w : World} {kd a b c d e f k nx el pl : Int} {u : Value} (hk : In64 k) :
    Calls Tryd.prog 66 #[.agg #[.int .i64 kd, .int .i64 a, .int .i64 b, .int .i64 c, .int .i64 d, .int .i64 e, .int .i64 f, .int .i64 k, u, .int .i64 nx, .int .i64 el, .int .i64 pl]] w fun en w' => en = .returned (.bool (kB kd k)) ∧ Below w.heap.size w w' := by
  have HB := Lib.hid ((Below.refl w.heap.size w).alloc (Nat.le_refl _) (.cells #[.int .i64 kd, .int .i64 a, .int .i64 b, .int .i64 c, .int .i64 d, .int .i64 e, .int .i64 f, .int .i64 k, u, .int .i64 nx, .int .i64 el, .int .i64 pl] 42))
  have C := Lib.hid (fun lo hi => wi_one (w := w.alloc (.cells #[.int .i64 kd, .int .i64 a, .int .i64 b, .int .i64 c, .int .i64 d, .int .i64 e, .int .i64 f, .int .i64 k, u, .int .i64 nx, .int .i64 el, .int .i64 pl] 42)) lo hi k hk)
  rw [asz] at C
  by_cases h1 : kd = 1
  · subst h1
    have HV : Hid (kB 1 k = true) := Lib.hid (by unfold kB; simp)
    clear C hk
    go_enter Tryd.func66, Tryd.ntmps66
    go_wp2
    go_ret
    exact ⟨rbool HV.out.symm, HB.out⟩
  · have g1 : (kd != 1) = true := by simpa using h1
    by_cases h5 : kd = 5
    · subst h5
      have HV : Hid (kB 5 k = rg 1 2 k) := Lib.hid (by unfold kB; simp)
      have C1 := Lib.hid (C.out 1 2)
      clear C hk
      go_enter Tryd.func66, Tryd.ntmps66
      go_wp2_with fail
      refine C1.out.mono ?_
      rintro en w2 ⟨rfl, hb2⟩
      have HB2 := Lib.hid (HB.out.trans (hb2.mono (by omega)))
      clear hb2
      go_wp2
      go_ret
      exact ⟨rbool HV.out.symm, HB2.out⟩
    · have g5 : (kd != 5) = true := by simpa using h5
      by_cases h6 : kd = 6
      · subst h6
        have HV : Hid (kB 6 k = rg 1 11 k) := Lib.hid (by unfold kB; simp)
        have C1 := Lib.hid (C.out 1 11)
        clear C hk
        go_enter Tryd.func66, Tryd.ntmps66
        go_wp2_with fail
        refine C1.out.mono ?_
        rintro en w2 ⟨rfl, hb2⟩
        have HB2 := Lib.hid (HB.out.trans (hb2.mono (by omega)))
        clear hb2
        go_wp2
        go_ret
        exact ⟨rbool HV.out.symm, HB2.out⟩
      · have g6 : (kd != 6) = true := by simpa using h6
        by_cases h7 : kd = 7
        · subst h7
          have HV : Hid (kB 7 k = rg 0 1 k) := Lib.hid (by unfold kB; simp)
          have C1 := Lib.hid (C.out 0 1)
          clear C hk
          go_enter Tryd.func66, Tryd.ntmps66
          go_wp2_with fail
          refine C1.out.mono ?_
          rintro en w2 ⟨rfl, hb2⟩
          have HB2 := Lib.hid (HB.out.trans (hb2.mono (by omega)))
          clear hb2
          go_wp2
          go_ret
          exact ⟨rbool HV.out.symm, HB2.out⟩
        · have g7 : (kd != 7) = true := by simpa using h7
          by_cases h8 : kd = 8
          · subst h8
            have HV : Hid (kB 8 k = rg 0 1 k) := Lib.hid (by unfold kB; simp)
            have C1 := Lib.hid (C.out 0 1)
            clear C hk
            go_enter Tryd.func66, Tryd.ntmps66
            go_wp2_with fail
            refine C1.out.mono ?_
            rintro en w2 ⟨rfl, hb2⟩
            have HB2 := Lib.hid (HB.out.trans (hb2.mono (by omega)))
            clear hb2
            go_wp2
            go_ret
            exact ⟨rbool HV.out.symm, HB2.out⟩
          · have g8 : (kd != 8) = true := by simpa using h8
            by_cases h11 : kd = 11
            · subst h11
              have HV : Hid (kB 11 k = rg 0 1 k) := Lib.hid (by unfold kB; simp)
              have C1 := Lib.hid (C.out 0 1)
              clear C hk
              go_enter Tryd.func66, Tryd.ntmps66
              go_wp2_with fail
              refine C1.out.mono ?_
              rintro en w2 ⟨rfl, hb2⟩
              have HB2 := Lib.hid (HB.out.trans (hb2.mono (by omega)))
              clear hb2
              go_wp2
              go_ret
              exact ⟨rbool HV.out.symm, HB2.out⟩
            · have g11 : (kd != 11) = true := by simpa using h11
              by_cases h12 : kd = 12
              · subst h12
                have HV : Hid (kB 12 k = rg 0 1 k) := Lib.hid (by unfold kB; simp)
                have C1 := Lib.hid (C.out 0 1)
                clear C hk
                go_enter Tryd.func66, Tryd.ntmps66
                go_wp2_with fail
                refine C1.out.mono ?_
                rintro en w2 ⟨rfl, hb2⟩
                have HB2 := Lib.hid (HB.out.trans (hb2.mono (by omega)))
                clear hb2
                go_wp2
                go_ret
                exact ⟨rbool HV.out.symm, HB2.out⟩
              · have g12 : (kd != 12) = true := by simpa using h12
                have HV : Hid (kB kd k = decide (k = 0)) := Lib.hid (by unfold kB; simp [h1, h5, h6, h7, h8, h11, h12])
                clear C hk
                go_enter Tryd.func66, Tryd.ntmps66
                go_wp2
                go_ret
                exact ⟨rbool HV.out.symm, HB.out⟩

end Go.Proofs.YtgohnlcgidmlfaaDoor
