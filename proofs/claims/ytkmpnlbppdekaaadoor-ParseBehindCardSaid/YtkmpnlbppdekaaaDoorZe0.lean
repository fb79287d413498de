/- Gk -/
import Derived.Test.YtkmpnlbppdekaaaDoorZd8
import Derived.StillTailTactics
import Derived.IntWalk
set_option linter.unusedVariables false
set_option linter.unusedSimpArgs false
namespace Go.Proofs.YtkmpnlbppdekaaaDoor
open Go.RowKit
def partX (L : Nat) (us : List Tok) : Rd Ex := match exprM L 23 us with
  | .bad p c => .bad p c
  | .ok x [] => .ok x []
  | .ok _ (t :: _) => .bad t.pl 20
def XPost (w : World) (R : Nat) (x : Rd Ex) (e : Ending) (w' : World) : Prop := match x with
  | .bad p c => e = thrown p c ∧ Chg (fun b => b = R) w w'
  | .ok x _ => ∃ v, e = .returned v ∧ ExB w.heap.size w' x v ∧ Chg (fun b => b = R) w w'
theorem partX_expr (s : List UInt8) : exprP s = match toks s with
  | .err p e => (noEx, p, e)
  | .ok us => match partX s.length us with
    | .bad p c => (noEx, p, c)
    | .ok x _ => (x, 0, 0) := by
  unfold exprP partX
  cases toks s with
  | err p e => rfl
  | ok us =>
    simp only
    cases exprM s.length 23 us with
    | bad p c => rfl
    | ok x r => cases r <;> rfl
theorem xpart_any {w : World} {B R L : Nat} {us : List Tok} (h : RdAt w B R L us) (hB : B ≤ w.heap.size) : Calls Tryd.prog 15 #[.pointer (some ⟨R, 0, none⟩)] w (XPost w R (partX L us)) := by
  obtain ⟨X, hX⟩ : ∃ X : World, X = w.alloc (.cells #[.int .i64 0, .int .i64 0, .int .i64 0, .string ⟨#[]⟩, .slice none 0 0] 32) := ⟨_, rfl⟩
  have hbX : Below w.heap.size w X := by rw [hX]; exact below_new _ _
  have hPX := expr_all L 23 (by omega) X B R us (h.below' hB hbX) (Nat.le_trans hB hbX.size)
  rw [show (25 - ((23 : Nat) : Int)) = 2 from rfl] at hPX
  have HPX := Lib.hid hPX
  have hrow : X.heap[w.heap.size]? = some (.cells #[.int .i64 0, .int .i64 0, .int .i64 0, .string ⟨#[]⟩, .slice none 0 0] 32 (0, 0)) := by rw [hX]; exact heap_alloc_new _ _
  have HROW := Lib.hid hrow
  have HRW := Lib.hid (show R < w.heap.size by have := h.lt; omega)
  have HSZ := Lib.hid (show X.heap.size = w.heap.size + 1 by rw [hX]; simp)
  clear hPX hrow
  have HX := Lib.hid hX
  have HBX := Lib.hid hbX
  have HH := Lib.hid h
  clear h hX hbX
  go_enter Tryd.func15, Tryd.ntmps15
  go_wp2_with fail
  rw [← HX.out]
  refine HPX.out.mono ?_
  rintro e w1 hp
  cases hx : exprM L 23 us with
  | bad p c =>
    rw [hx] at hp
    obtain ⟨rfl, hc⟩ := hp
    have HC := Lib.hid (chg_below HBX.out hc)
    have hq : partX L us = .bad p c := by unfold partX; rw [hx]
    rw [hq]
    clear hx hc hq
    unfold thrown
    go_wp2
    exact ⟨rfl, rfl, HC.out⟩
  | ok x r =>
    rw [hx] at hp
    obtain ⟨⟨v, rfl, ⟨u, rfl, hnm, hin⟩⟩, hr, hc⟩ := hp
    obtain ⟨A, d, rfl, -⟩ := IsExs.slice hin
    have r1 := hc.row HROW.out (by have := HRW.out; omega)
    have HC := Lib.hid hc
    have HIN := Lib.hid hin
    have HNM := Lib.hid hnm
    have HR := Lib.hid hr
    have HXX := Lib.hid hx
    have HR1 := Lib.hid r1
    clear hx hc hin hnm hr r1
    go_wp2_with fail
    obtain ⟨W, hW⟩ : ∃ W, W = w1.alloc (.cells #[.int .i64 x.kind, .int .i64 x.pl, .int .i64 x.num, .string (strOf x.name), .slice A x.args.length d] 32) := ⟨_, rfl⟩
    have hsW : W.heap.size = w1.heap.size + 1 := by rw [hW]; simp
    rw [← hW, ← hsW]
    have h01 : w.heap.size < w1.heap.size := lt_of_heap HR1.out
    have hbW : Below w1.heap.size w1 W := by rw [hW]; exact below_new _ _
    have hrW : RdAt W B R L r := HR.out.below' (by omega) hbW
    have e0 : W.heap[w1.heap.size]? = some (.cells #[.int .i64 x.kind, .int .i64 x.pl, .int .i64 x.num, .string (strOf x.name), .slice A x.args.length d] 32 (0, 0)) := by rw [hW]; exact heap_alloc_new _ _
    have e1 := (hbW.block _ h01).trans HR1.out
    have hcW : Chg (fun b => b = R) w W := chg_below HBX.out (HC.out.trans (Chg.of_below hbW) fun _ _ h => h)
    have HT := Lib.hid (take_end hrW (by omega))
    clear hW
    refine HT.out.mono ?_
    rintro e w2 hp2
    cases r with
    | cons t ts =>
      obtain ⟨rfl, hc2⟩ := hp2
      have hq : partX L us = .bad t.pl 20 := by unfold partX; rw [HXX.out]
      rw [hq]
      have HCC := Lib.hid (hcW.trans hc2 fun _ _ h => h)
      clear hc2 hq hcW hrW hbW e0 e1
      unfold thrown
      go_wp2
      exact ⟨rfl, rfl, HCC.out⟩
    | nil =>
      obtain ⟨⟨v, rfl⟩, hc2⟩ := hp2
      have hq : partX L us = .ok x [] := by unfold partX; rw [HXX.out]
      rw [hq]
      have hRlt := HRW.out
      have s0 := hc2.row e0 (by omega)
      have s1 := hc2.row e1 (by omega)
      have c0 := cell_of_row w2 w1.heap.size 0 _ _ (0, 0) s0
      have c1 := cell_of_row w2 w1.heap.size 1 _ _ (0, 0) s0
      have c2 := cell_of_row w2 w1.heap.size 2 _ _ (0, 0) s0
      have c3 := cell_of_row w2 w1.heap.size 3 _ _ (0, 0) s0
      have c4 := cell_of_row w2 w1.heap.size 4 _ _ (0, 0) s0
      have hne : w1.heap.size ≠ w.heap.size := by omega
      have d0 := cell_of_row w2 w.heap.size 0 _ _ (0, 0) s1
      have f0 := frozen_of_row w2 w.heap.size 0 _ _ s1
      have d1 := cell_of_row w2 w.heap.size 1 _ _ (0, 0) s1
      have f1 := frozen_of_row w2 w.heap.size 1 _ _ s1
      have d2 := cell_of_row w2 w.heap.size 2 _ _ (0, 0) s1
      have f2 := frozen_of_row w2 w.heap.size 2 _ _ s1
      have d3 := cell_of_row w2 w.heap.size 3 _ _ (0, 0) s1
      have f3 := frozen_of_row w2 w.heap.size 3 _ _ s1
      have d4 := cell_of_row w2 w.heap.size 4 _ _ (0, 0) s1
      have f4 := frozen_of_row w2 w.heap.size 4 _ _ s1
      simp at c0 c1 c2 c3 c4 d0 d1 d2 d3 d4
      have S1 := Lib.hid s1
      have HCC := Lib.hid (hcW.trans hc2 fun _ _ h => h)
      have HC2 := Lib.hid hc2
      have HBW := Lib.hid hbW
      clear s0 s1 hc2 hq hcW hrW hbW e0 e1 hsW hRlt
      clear HPX HT
      go_wp2
      generalize hV : ((((w2.setCell ⟨w.heap.size, 0, none⟩ (.int .i64 x.kind)).setCell ⟨w.heap.size, 1, none⟩ (.int .i64 x.pl)).setCell ⟨w.heap.size, 2, none⟩ (.int .i64 x.num)).setCell ⟨w.heap.size, 3, none⟩ (.string (strOf x.name))).setCell ⟨w.heap.size, 4, none⟩ (.slice A x.args.length d) = V
      have v0 := set_five S1.out (.int .i64 x.kind) (.int .i64 x.pl) (.int .i64 x.num) (.string (strOf x.name)) (.slice A x.args.length d)
      have hcV := chg_five w2 w.heap.size (.int .i64 x.kind) (.int .i64 x.pl) (.int .i64 x.num) (.string (strOf x.name)) (.slice A x.args.length d)
      rw [hV] at v0 hcV
      clear c0 c1 c2 c3 c4 d0 d1 d2 d3 d4 f0 f1 f2 f3 f4
      have c0 := cell_of_row V w.heap.size 0 _ _ (0, 0) v0
      have c1 := cell_of_row V w.heap.size 1 _ _ (0, 0) v0
      have c2 := cell_of_row V w.heap.size 2 _ _ (0, 0) v0
      have c3 := cell_of_row V w.heap.size 3 _ _ (0, 0) v0
      have c4 := cell_of_row V w.heap.size 4 _ _ (0, 0) v0
      simp at c0 c1 c2 c3 c4
      have hq : partX L us = .ok x [] := by unfold partX; rw [HXX.out]
      rw [hq]
      have HIN2 := HIN.out
      have HNM2 := HNM.out
      have HCC2 := HCC.out
      have HC3 := HC2.out
      have HBW2 := HBW.out
      have hRW := HRW.out
      have hSZ := HSZ.out
      refine bodyPost_ret (v := .agg #[.int .i64 x.kind, .int .i64 x.pl, .int .i64 x.num, .string (strOf x.name), .slice A x.args.length d]) ?_ rfl ?_
      · clear HIN2 HNM2 HCC2 HIN HNM HCC HC2 HBW HC S1 HH HR hV v0 hcV
        simp [results, Tryd.results15, go_sem, c0, c1, c2, c3, c4]
      · refine ⟨_, rfl, ⟨_, rfl, HNM2, ?_⟩, HCC2.trans hcV fun b hb e => by omega⟩
        have s1 := HBW2.size
        have s2 := HC3.size
        have s3 := hcV.size
        refine IsExs.keep HIN2 (fun b hb => ?_) (fun b hb => ⟨by omega, by omega⟩)
        exact (hcV.block b (by omega) (by omega)).trans ((HC3.block b (by omega) (by omega)).trans (HBW2.block b hb.2))
end Go.Proofs.YtkmpnlbppdekaaaDoor
