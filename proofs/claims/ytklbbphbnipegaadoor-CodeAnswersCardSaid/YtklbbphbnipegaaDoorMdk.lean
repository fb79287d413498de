/- Two operations that are the same: told so. -/
import Derived.Test.YtklbbphbnipegaaDoorMdh
import Derived.Test.YtklbbphbnipegaaDoorMdi
set_option linter.unusedVariables false
set_option linter.unusedSimpArgs false
namespace Go.Proofs.YtklbbphbnipegaaDoor
open Go.RowKit

set_option maxHeartbeats 4000000 in
set_option maxRecDepth 100000 in
theorem sameOp_at {w : World} {S S' : Nat → Prop} {o : Opx} {v v' : Value} (h : Lies KI w S o.args v) (h' : Lies KI w S' o.args v') (hS : ∀ b, S b → b < w.heap.size) (hS' : ∀ b, S' b → b < w.heap.size) :
    Calls Tryd.prog 38 #[.agg #[.int .i64 o.kind, .int .i64 o.a, .int .i64 o.b, .int .i64 o.c, .int .i64 o.d, .int .i64 o.e, .int .i64 o.f, .int .i64 o.k, v, .int .i64 o.next, .int .i64 o.els, .int .i64 o.pl], .agg #[.int .i64 o.kind, .int .i64 o.a, .int .i64 o.b, .int .i64 o.c, .int .i64 o.d, .int .i64 o.e, .int .i64 o.f, .int .i64 o.k, v', .int .i64 o.next, .int .i64 o.els, .int .i64 o.pl]] w fun e w' => e = .returned (.bool true) ∧ Below w.heap.size w w' := by
  obtain ⟨A, c, rfl, -, -⟩ := h.form
  obtain ⟨A', c', rfl, -, -⟩ := h'.form
  obtain ⟨X, hX⟩ : ∃ X : World, X = (w.alloc (.cells #[.int .i64 o.kind, .int .i64 o.a, .int .i64 o.b, .int .i64 o.c, .int .i64 o.d, .int .i64 o.e, .int .i64 o.f, .int .i64 o.k, .slice A o.args.length c, .int .i64 o.next, .int .i64 o.els, .int .i64 o.pl] 42)).alloc (.cells #[.int .i64 o.kind, .int .i64 o.a, .int .i64 o.b, .int .i64 o.c, .int .i64 o.d, .int .i64 o.e, .int .i64 o.f, .int .i64 o.k, .slice A' o.args.length c', .int .i64 o.next, .int .i64 o.els, .int .i64 o.pl] 42) := ⟨_, rfl⟩
  have hb : Below w.heap.size w X := by rw [hX]; exact ((Below.refl _ w).alloc (Nat.le_refl _) _).alloc (by simp) _
  have h0 : OpBlk X w.heap.size o (.slice A o.args.length c) := by rw [hX]; exact (Below.heap_alloc _ _ _ (by simp)).trans (OpBlk.new w o _)
  have h1 : OpBlk X (w.heap.size + 1) o (.slice A' o.args.length c') := by
    rw [hX]
    have := OpBlk.new (w.alloc (.cells #[.int .i64 o.kind, .int .i64 o.a, .int .i64 o.b, .int .i64 o.c, .int .i64 o.d, .int .i64 o.e, .int .i64 o.f, .int .i64 o.k, .slice A o.args.length c, .int .i64 o.next, .int .i64 o.els, .int .i64 o.pl] 42)) o (.slice A' o.args.length c')
    rw [show (w.alloc (.cells #[.int .i64 o.kind, .int .i64 o.a, .int .i64 o.b, .int .i64 o.c, .int .i64 o.d, .int .i64 o.e, .int .i64 o.f, .int .i64 o.k, .slice A o.args.length c, .int .i64 o.next, .int .i64 o.els, .int .i64 o.pl] 42)).heap.size = w.heap.size + 1 from by simp] at this
    exact this
  have hc := sameInts_at (h.keep (w' := X) (fun b hq => hb.block b (hS b hq)) (fun _ h => h)) (h'.keep (w' := X) (fun b hq => hb.block b (hS' b hq)) (fun _ h => h))
  have HX := Lib.hid hX
  have HB := Lib.hid hb
  have H0 := Lib.hid h0
  have H1 := Lib.hid h1
  have HC := Lib.hid hc
  clear h h' hS hS' hX hb h0 h1 hc
  go_enter Tryd.func38, Tryd.ntmps38
  go_wp2_with fail
  rw [← HX.out]
  refine HC.out.mono ?_
  rintro e w2 ⟨rfl, hd⟩
  have hh := hd.heap
  obtain ⟨q0, q1, q2, q3, q4, q5, q6, q7, q8, q9, q10, q11⟩ := OpBlk.all (show OpBlk w2 w.heap.size o _ from (congrArg (·[w.heap.size]?) hh).trans H0.out)
  obtain ⟨r0, r1, r2, r3, r4, r5, r6, r7, r8, r9, r10, r11⟩ := OpBlk.all (show OpBlk w2 (w.heap.size + 1) o _ from (congrArg (·[w.heap.size + 1]?) hh).trans H1.out)
  have HD := Lib.hid hd
  clear hh hd
  go_wp2
  go_ret
  exact ⟨rfl, HB.out.trans HD.out.below⟩

end Go.Proofs.YtklbbphbnipegaaDoor
