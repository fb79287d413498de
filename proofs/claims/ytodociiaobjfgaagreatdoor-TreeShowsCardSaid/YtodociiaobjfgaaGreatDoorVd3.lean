/- Kob -/
import Derived.Test.YtodociiaobjfgaaGreatDoorVe0
set_option linter.unusedVariables false
set_option linter.unusedSimpArgs false
namespace Go.Proofs.YtodociiaobjfgaaGreatDoor
open Go.RowKit
set_option maxHeartbeats 40000000 in
set_option maxRecDepth 100000 in
theorem Xjw {w X : World} {g : Nat} {k p num : Int} {SN ST : ByteArray} {A5 A6 : Option Addr} {m5 m6 np nb tn : Nat} {bn em : Bool} {left ow : Int} {prs : List Pr} {bd : List Sm} {R : Int} (F : DcF w X g k p num SN ST A5 A6 m5 m6 np nb tn bn em left ow prs bd) (HRB : Hid (R = -1)) (hbad : k < 1 ∨ 8 < k ∨ 1 ≤ k ∧ k ≤ 8 ∧ badD k bn em tn num nb np) :
  Calls Tryz.prog 17 #[.agg #[.int .i64 k, .int .i64 p, .int .i64 num, .string SN, .string ST, .slice A5 np m5, .slice A6 nb m6], .int .i64 left] w fun e w' => e = .returned (.int .i64 R) ∧ Below g w w' := by
 obtain ⟨HX, HG, HGL, HC, HNM, HTY, HPR, HBD, HEND, HLE, hse, ht3, hnp, hl0, hl1⟩ := F
 clear HPR HBD HLE
 have HBW := lh (Below.refl X.heap.size X)
 go_enter Tryz.func17, Tryz.ntmps17
 go_upto_region 1 with fail
 rw [← HG.out, ← HX.out]
 obtain ⟨c0, c2, c3, c4, c5, c6⟩ := HC.out X HBW.out
 by_cases hk1 : k < 1
 · go_wp2
   go_ret
   exact ⟨by rw [HRB.out]; rfl, HEND.out _ HBW.out⟩
 by_cases hk2 : 8 < k
 · go_wp2
   go_ret
   exact ⟨by rw [HRB.out]; rfl, HEND.out _ HBW.out⟩
 obtain ⟨-, -, hbad⟩ := (hbad.resolve_left hk1).resolve_left hk2
 rcases hbad with ⟨rfl, f1, f2, f3, f4, f5, f6⟩ | ⟨rfl, f1, f2, f3, f4, f5, f6⟩ | ⟨rfl, f1, f2, f3, f4, f5, f6⟩ | ⟨rfl, f1, f2, f3, f4, f5, f6⟩ | ⟨rfl, f1, f2, f3, f4, f5, f6⟩ | ⟨rfl, f1, f2, f3, f4, f5, f6⟩ | ⟨rfl, f1, f2, f3, f4, f5, f6⟩ | ⟨rfl, f1, f2, f3, f4, f5, f6⟩ | ⟨rfl, f1, f2, f3, f4, f5, f6⟩ | ⟨rfl, f1, f2, f3, f4, f5, f6⟩ | ⟨rfl, f1, f2, f3, f4, f5, f6⟩ | ⟨rfl, f1, f2, f3, f4, f5, f6⟩ | ⟨rfl, f1, f2, f3, f4, f5, f6⟩ | ⟨rfl, f1, f2, f3, f4, f5, f6⟩ | ⟨rfl, f1, f2, f3, f4, f5, f6⟩ | ⟨rfl, f1, f2, f3, f4, f5, f6⟩ | ⟨rfl, f1, f2, f3, f4, f5, f6⟩ | ⟨rfl, f1, f2, f3, f4, f5, f6⟩ | ⟨rfl, f1, f2, f3, f4, f5, f6⟩ | ⟨rfl, f1, f2, f3, f4, f5, f6⟩ | ⟨rfl, f1, f2, f3, f4, f5, f6⟩ | ⟨rfl, f1, f2, f3, f4, f5, f6⟩ | ⟨rfl, f1, f2, f3, f4, f5, f6⟩ | ⟨rfl, f1, f2, f3, f4, f5, f6⟩ | ⟨rfl, f1, f2, f3, f4, f5, f6⟩ | ⟨rfl, f1, f2, f3, f4, f5, f6⟩ | ⟨rfl, f1, f2, f3, f4, f5, f6⟩ | ⟨rfl, f1, f2, f3, f4, f5, f6⟩ | ⟨rfl, f1, f2, f3, f4, f5, f6⟩ | ⟨rfl, f1, f2, f3, f4, f5, f6⟩ | ⟨rfl, f1, f2, f3, f4, f5, f6⟩ | ⟨rfl, f1, f2, f3, f4, f5, f6⟩ | ⟨rfl, f1, f2, f3, f4, f5, f6⟩ | ⟨rfl, f1, f2, f3, f4, f5, f6⟩ | ⟨rfl, f1, f2, f3, f4, f5, f6⟩ | ⟨rfl, f1, f2, f3, f4, f5, f6⟩ | ⟨rfl, f1, f2, f3, f4, f5, f6⟩
 all_goals
  (try subst f1); (try subst f2); (try subst f3); (try subst f4); (try subst f5); (try subst f6)
  (try have z1 : (num != 0) = true := by simp; omega)
  go_wp2_with (first
    | ((with_reducible refine (HNM.out _ HBW.out).mono ?_); rintro e w1 ⟨rfl, hb1⟩; replace HBW := lh hb1; clear hb1; obtain ⟨c0, c2, c3, c4, c5, c6⟩ := HC.out w1 HBW.out; have hgl : g < w1.heap.size := Nat.lt_of_lt_of_le HGL.out HBW.out.size)
    | ((with_reducible refine (HTY.out _ HBW.out).mono ?_); rintro e w1 ⟨A', c', rfl, hb1⟩; replace HBW := lh hb1; clear hb1; obtain ⟨c0, c2, c3, c4, c5, c6⟩ := HC.out w1 HBW.out; have hgl : g < w1.heap.size := Nat.lt_of_lt_of_le HGL.out HBW.out.size))
  go_ret
  exact ⟨by rw [HRB.out]; rfl, HEND.out _ HBW.out⟩
end Go.Proofs.YtodociiaobjfgaaGreatDoor
