/- Kmb -/
import Derived.Test.YtodociiaobjfgaaGreatDoorVe0
set_option linter.unusedVariables false
set_option linter.unusedSimpArgs false
namespace Go.Proofs.YtodociiaobjfgaaGreatDoor
open Go.RowKit
set_option maxHeartbeats 40000000 in
set_option maxRecDepth 100000 in
theorem Xhv {w X : World} {g : Nat} {k p : Int} {SN ST : ByteArray} {A A2 A3 : Option Addr} {c m2 m3 nx nb nl tn : Nat} {bn bt bz em : Bool} {fk depth left ow L1 xk : Int} {ex : List Ex} {bd el : List Sm} {R : Int} (F : StF w X g k p SN ST A A2 A3 c m2 m3 nx nb nl tn bn bt bz em fk depth left ow L1 xk ex bd el) (HRB : Hid (R = -1)) (hbad : left < 1 ∨ k < 1 ∨ 11 < k ∨ 1 ≤ left ∧ 1 ≤ k ∧ k ≤ 11 ∧ badS k bn bz em bt tn nx nb nl fk) :
  Calls Tryz.prog 49 #[.agg #[.int .i64 k, .int .i64 p, .string SN, .string ST, .slice A nx c, .slice A2 nb m2, .slice A3 nl m3], .int .i64 depth, .int .i64 left] w fun e w' => e = .returned (.int .i64 R) ∧ Below g w w' := by
 have hfirst := F.first
 obtain ⟨HX, HG, HGL, HC, HNM, HNT, HTY, HXP, HBD, HEL, HEX, HEND, HST, HNX, HNB, HNL, HL2, HFK, hsn, hse, ht3, hd0, hd, hl0, hl1, hL1le, hxk⟩ := F
 clear HST HL2 HBD HEL HEX HFK hL1le
 have HBW := lh (Below.refl X.heap.size X)
 go_enter Tryz.func49, Tryz.ntmps49
 go_upto_region 1 with fail
 rw [← HG.out, ← HX.out]
 obtain ⟨c0, c2, c3, c4, c5, c6⟩ := HC.out X HBW.out
 by_cases hl1' : left < 1
 · go_wp2
   go_ret
   exact ⟨by rw [HRB.out]; rfl, HEND.out _ HBW.out⟩
 by_cases hk1 : k < 1
 · go_wp2
   go_ret
   exact ⟨by rw [HRB.out]; rfl, HEND.out _ HBW.out⟩
 by_cases hk2 : 11 < k
 · go_wp2
   go_ret
   exact ⟨by rw [HRB.out]; rfl, HEND.out _ HBW.out⟩
 have HXQ := lh (HXP.out (by omega) (by omega))
 obtain ⟨-, -, -, hbad⟩ := (hbad.resolve_left hl1').resolve_left hk1 |>.resolve_left hk2
 clear HXP
 by_cases hk : k = 2
 · rcases hfirst with h0 | ⟨b0, off0, rfl, hf0⟩
   · have HF0 : Hid (∀ V, Below X.heap.size X V → True) := lh (fun _ _ => trivial)
     rcases hbad with ⟨rfl, f1, f2, f3, f4, f5, f6, f7, f8, f9⟩ | ⟨rfl, f1, f2, f3, f4, f5, f6, f7, f8, f9⟩ | ⟨rfl, f1, f2, f3, f4, f5, f6, f7, f8, f9⟩ | ⟨rfl, f1, f2, f3, f4, f5, f6, f7, f8, f9⟩ | ⟨rfl, f1, f2, f3, f4, f5, f6, f7, f8, f9⟩ | ⟨rfl, f1, f2, f3, f4, f5, f6, f7, f8, f9⟩ | ⟨rfl, f1, f2, f3, f4, f5, f6, f7, f8, f9⟩ | ⟨rfl, f1, f2, f3, f4, f5, f6, f7, f8, f9⟩ | ⟨rfl, f1, f2, f3, f4, f5, f6, f7, f8, f9⟩ | ⟨rfl, f1, f2, f3, f4, f5, f6, f7, f8, f9⟩ | ⟨rfl, f1, f2, f3, f4, f5, f6, f7, f8, f9⟩ | ⟨rfl, f1, f2, f3, f4, f5, f6, f7, f8, f9⟩ | ⟨rfl, f1, f2, f3, f4, f5, f6, f7, f8, f9⟩ | ⟨rfl, f1, f2, f3, f4, f5, f6, f7, f8, f9⟩ | ⟨rfl, f1, f2, f3, f4, f5, f6, f7, f8, f9⟩ | ⟨rfl, f1, f2, f3, f4, f5, f6, f7, f8, f9⟩ | ⟨rfl, f1, f2, f3, f4, f5, f6, f7, f8, f9⟩ | ⟨rfl, f1, f2, f3, f4, f5, f6, f7, f8, f9⟩ | ⟨rfl, f1, f2, f3, f4, f5, f6, f7, f8, f9⟩ | ⟨rfl, f1, f2, f3, f4, f5, f6, f7, f8, f9⟩ | ⟨rfl, f1, f2, f3, f4, f5, f6, f7, f8, f9⟩ | ⟨rfl, f1, f2, f3, f4, f5, f6, f7, f8, f9⟩ | ⟨rfl, f1, f2, f3, f4, f5, f6, f7, f8, f9⟩ | ⟨rfl, f1, f2, f3, f4, f5, f6, f7, f8, f9⟩ | ⟨rfl, f1, f2, f3, f4, f5, f6, f7, f8, f9⟩ | ⟨rfl, f1, f2, f3, f4, f5, f6, f7, f8, f9⟩ | ⟨rfl, f1, f2, f3, f4, f5, f6, f7, f8, f9⟩ | ⟨rfl, f1, f2, f3, f4, f5, f6, f7, f8, f9⟩ | ⟨rfl, f1, f2, f3, f4, f5, f6, f7, f8, f9⟩ | ⟨rfl, f1, f2, f3, f4, f5, f6, f7, f8, f9⟩ | ⟨rfl, f1, f2, f3, f4, f5, f6, f7, f8, f9⟩ | ⟨rfl, f1, f2, f3, f4, f5, f6, f7, f8, f9⟩ | ⟨rfl, f1, f2, f3, f4, f5, f6, f7, f8, f9⟩ | ⟨rfl, f1, f2, f3, f4, f5, f6, f7, f8, f9⟩ | ⟨rfl, f1, f2, f3, f4, f5, f6, f7, f8, f9⟩ | ⟨rfl, f1, f2, f3, f4, f5, f6, f7, f8, f9⟩ | ⟨rfl, f1, f2, f3, f4, f5, f6, f7, f8, f9⟩ | ⟨rfl, f1, f2, f3, f4, f5, f6, f7, f8, f9⟩ | ⟨rfl, f1, f2, f3, f4, f5, f6, f7, f8, f9⟩ | ⟨rfl, f1, f2, f3, f4, f5, f6, f7, f8, f9⟩ | ⟨rfl, f1, f2, f3, f4, f5, f6, f7, f8, f9⟩ | ⟨rfl, f1, f2, f3, f4, f5, f6, f7, f8, f9⟩ | ⟨rfl, f1, f2, f3, f4, f5, f6, f7, f8, f9⟩ | ⟨rfl, f1, f2, f3, f4, f5, f6, f7, f8, f9⟩ | ⟨rfl, f1, f2, f3, f4, f5, f6, f7, f8, f9⟩ | ⟨rfl, f1, f2, f3, f4, f5, f6, f7, f8, f9⟩ | ⟨rfl, f1, f2, f3, f4, f5, f6, f7, f8, f9⟩ | ⟨rfl, f1, f2, f3, f4, f5, f6, f7, f8, f9⟩ | ⟨rfl, f1, f2, f3, f4, f5, f6, f7, f8, f9⟩ | ⟨rfl, f1, f2, f3, f4, f5, f6, f7, f8, f9⟩ | ⟨rfl, f1, f2, f3, f4, f5, f6, f7, f8, f9⟩ | ⟨rfl, f1, f2, f3, f4, f5, f6, f7, f8, f9⟩ | ⟨rfl, f1, f2, f3, f4, f5, f6, f7, f8, f9⟩ | ⟨rfl, f1, f2, f3, f4, f5, f6, f7, f8, f9⟩ | ⟨rfl, f1, f2, f3, f4, f5, f6, f7, f8, f9⟩ | ⟨rfl, f1, f2, f3, f4, f5, f6, f7, f8, f9⟩ | ⟨rfl, f1, f2, f3, f4, f5, f6, f7, f8, f9⟩ | ⟨rfl, f1, f2, f3, f4, f5, f6, f7, f8, f9⟩ | ⟨rfl, f1, f2, f3, f4, f5, f6, f7, f8, f9⟩ | ⟨rfl, f1, f2, f3, f4, f5, f6, f7, f8, f9⟩
     all_goals
      first
      | (exfalso; omega)
      | ((try subst f1); (try subst f2); (try subst f3); (try subst f4); (try subst f5); (try subst f6); (try subst f7); (try subst f8)
         simp [exN] at hxk; subst hxk
         (try have z1 : (fk != 4) = true := by simp; omega); (try have z2 : (fk != 5) = true := by simp; omega); (try have z3 : (fk != 6) = true := by simp; omega)
         go_wp2_with (first
      | ((with_reducible refine (HNM.out _ HBW.out).mono ?_); rintro e w1 ⟨rfl, hb1⟩; replace HBW := lh hb1; clear hb1; obtain ⟨c0, c2, c3, c4, c5, c6⟩ := HC.out w1 HBW.out; have f0 := HF0.out w1 HBW.out; have hgl : g < w1.heap.size := Nat.lt_of_lt_of_le HGL.out HBW.out.size)
      | ((with_reducible refine (HNT.out _ HBW.out).mono ?_); rintro e w1 ⟨rfl, hb1⟩; replace HBW := lh hb1; clear hb1; obtain ⟨c0, c2, c3, c4, c5, c6⟩ := HC.out w1 HBW.out; have f0 := HF0.out w1 HBW.out; have hgl : g < w1.heap.size := Nat.lt_of_lt_of_le HGL.out HBW.out.size)
      | ((with_reducible refine (HTY.out _ HBW.out).mono ?_); rintro e w1 ⟨A', c', rfl, hb1⟩; replace HBW := lh hb1; clear hb1; obtain ⟨c0, c2, c3, c4, c5, c6⟩ := HC.out w1 HBW.out; have f0 := HF0.out w1 HBW.out; have hgl : g < w1.heap.size := Nat.lt_of_lt_of_le HGL.out HBW.out.size)
      | ((with_reducible refine (HXQ.out _ HBW.out).mono ?_); rintro e w1 ⟨rfl, hb1⟩; replace HBW := lh hb1; clear hb1; obtain ⟨c0, c2, c3, c4, c5, c6⟩ := HC.out w1 HBW.out; have f0 := HF0.out w1 HBW.out; have hgl : g < w1.heap.size := Nat.lt_of_lt_of_le HGL.out HBW.out.size))
         go_ret
         exact ⟨by rw [HRB.out]; rfl, HEND.out _ HBW.out⟩)
   · have HF0 := lh hf0
     have f0 := hf0 _ HBW.out
     clear hf0
     rcases hbad with ⟨rfl, f1, f2, f3, f4, f5, f6, f7, f8, f9⟩ | ⟨rfl, f1, f2, f3, f4, f5, f6, f7, f8, f9⟩ | ⟨rfl, f1, f2, f3, f4, f5, f6, f7, f8, f9⟩ | ⟨rfl, f1, f2, f3, f4, f5, f6, f7, f8, f9⟩ | ⟨rfl, f1, f2, f3, f4, f5, f6, f7, f8, f9⟩ | ⟨rfl, f1, f2, f3, f4, f5, f6, f7, f8, f9⟩ | ⟨rfl, f1, f2, f3, f4, f5, f6, f7, f8, f9⟩ | ⟨rfl, f1, f2, f3, f4, f5, f6, f7, f8, f9⟩ | ⟨rfl, f1, f2, f3, f4, f5, f6, f7, f8, f9⟩ | ⟨rfl, f1, f2, f3, f4, f5, f6, f7, f8, f9⟩ | ⟨rfl, f1, f2, f3, f4, f5, f6, f7, f8, f9⟩ | ⟨rfl, f1, f2, f3, f4, f5, f6, f7, f8, f9⟩ | ⟨rfl, f1, f2, f3, f4, f5, f6, f7, f8, f9⟩ | ⟨rfl, f1, f2, f3, f4, f5, f6, f7, f8, f9⟩ | ⟨rfl, f1, f2, f3, f4, f5, f6, f7, f8, f9⟩ | ⟨rfl, f1, f2, f3, f4, f5, f6, f7, f8, f9⟩ | ⟨rfl, f1, f2, f3, f4, f5, f6, f7, f8, f9⟩ | ⟨rfl, f1, f2, f3, f4, f5, f6, f7, f8, f9⟩ | ⟨rfl, f1, f2, f3, f4, f5, f6, f7, f8, f9⟩ | ⟨rfl, f1, f2, f3, f4, f5, f6, f7, f8, f9⟩ | ⟨rfl, f1, f2, f3, f4, f5, f6, f7, f8, f9⟩ | ⟨rfl, f1, f2, f3, f4, f5, f6, f7, f8, f9⟩ | ⟨rfl, f1, f2, f3, f4, f5, f6, f7, f8, f9⟩ | ⟨rfl, f1, f2, f3, f4, f5, f6, f7, f8, f9⟩ | ⟨rfl, f1, f2, f3, f4, f5, f6, f7, f8, f9⟩ | ⟨rfl, f1, f2, f3, f4, f5, f6, f7, f8, f9⟩ | ⟨rfl, f1, f2, f3, f4, f5, f6, f7, f8, f9⟩ | ⟨rfl, f1, f2, f3, f4, f5, f6, f7, f8, f9⟩ | ⟨rfl, f1, f2, f3, f4, f5, f6, f7, f8, f9⟩ | ⟨rfl, f1, f2, f3, f4, f5, f6, f7, f8, f9⟩ | ⟨rfl, f1, f2, f3, f4, f5, f6, f7, f8, f9⟩ | ⟨rfl, f1, f2, f3, f4, f5, f6, f7, f8, f9⟩ | ⟨rfl, f1, f2, f3, f4, f5, f6, f7, f8, f9⟩ | ⟨rfl, f1, f2, f3, f4, f5, f6, f7, f8, f9⟩ | ⟨rfl, f1, f2, f3, f4, f5, f6, f7, f8, f9⟩ | ⟨rfl, f1, f2, f3, f4, f5, f6, f7, f8, f9⟩ | ⟨rfl, f1, f2, f3, f4, f5, f6, f7, f8, f9⟩ | ⟨rfl, f1, f2, f3, f4, f5, f6, f7, f8, f9⟩ | ⟨rfl, f1, f2, f3, f4, f5, f6, f7, f8, f9⟩ | ⟨rfl, f1, f2, f3, f4, f5, f6, f7, f8, f9⟩ | ⟨rfl, f1, f2, f3, f4, f5, f6, f7, f8, f9⟩ | ⟨rfl, f1, f2, f3, f4, f5, f6, f7, f8, f9⟩ | ⟨rfl, f1, f2, f3, f4, f5, f6, f7, f8, f9⟩ | ⟨rfl, f1, f2, f3, f4, f5, f6, f7, f8, f9⟩ | ⟨rfl, f1, f2, f3, f4, f5, f6, f7, f8, f9⟩ | ⟨rfl, f1, f2, f3, f4, f5, f6, f7, f8, f9⟩ | ⟨rfl, f1, f2, f3, f4, f5, f6, f7, f8, f9⟩ | ⟨rfl, f1, f2, f3, f4, f5, f6, f7, f8, f9⟩ | ⟨rfl, f1, f2, f3, f4, f5, f6, f7, f8, f9⟩ | ⟨rfl, f1, f2, f3, f4, f5, f6, f7, f8, f9⟩ | ⟨rfl, f1, f2, f3, f4, f5, f6, f7, f8, f9⟩ | ⟨rfl, f1, f2, f3, f4, f5, f6, f7, f8, f9⟩ | ⟨rfl, f1, f2, f3, f4, f5, f6, f7, f8, f9⟩ | ⟨rfl, f1, f2, f3, f4, f5, f6, f7, f8, f9⟩ | ⟨rfl, f1, f2, f3, f4, f5, f6, f7, f8, f9⟩ | ⟨rfl, f1, f2, f3, f4, f5, f6, f7, f8, f9⟩ | ⟨rfl, f1, f2, f3, f4, f5, f6, f7, f8, f9⟩ | ⟨rfl, f1, f2, f3, f4, f5, f6, f7, f8, f9⟩ | ⟨rfl, f1, f2, f3, f4, f5, f6, f7, f8, f9⟩ | ⟨rfl, f1, f2, f3, f4, f5, f6, f7, f8, f9⟩
     all_goals
      first
      | (exfalso; omega)
      | ((try subst f1); (try subst f2); (try subst f3); (try subst f4); (try subst f5); (try subst f6); (try subst f7); (try subst f8)
         simp [exN] at hxk; subst hxk
         (try have z1 : (fk != 4) = true := by simp; omega); (try have z2 : (fk != 5) = true := by simp; omega); (try have z3 : (fk != 6) = true := by simp; omega)
         go_wp2_with (first
      | ((with_reducible refine (HNM.out _ HBW.out).mono ?_); rintro e w1 ⟨rfl, hb1⟩; replace HBW := lh hb1; clear hb1; obtain ⟨c0, c2, c3, c4, c5, c6⟩ := HC.out w1 HBW.out; have f0 := HF0.out w1 HBW.out; have hgl : g < w1.heap.size := Nat.lt_of_lt_of_le HGL.out HBW.out.size)
      | ((with_reducible refine (HNT.out _ HBW.out).mono ?_); rintro e w1 ⟨rfl, hb1⟩; replace HBW := lh hb1; clear hb1; obtain ⟨c0, c2, c3, c4, c5, c6⟩ := HC.out w1 HBW.out; have f0 := HF0.out w1 HBW.out; have hgl : g < w1.heap.size := Nat.lt_of_lt_of_le HGL.out HBW.out.size)
      | ((with_reducible refine (HTY.out _ HBW.out).mono ?_); rintro e w1 ⟨A', c', rfl, hb1⟩; replace HBW := lh hb1; clear hb1; obtain ⟨c0, c2, c3, c4, c5, c6⟩ := HC.out w1 HBW.out; have f0 := HF0.out w1 HBW.out; have hgl : g < w1.heap.size := Nat.lt_of_lt_of_le HGL.out HBW.out.size)
      | ((with_reducible refine (HXQ.out _ HBW.out).mono ?_); rintro e w1 ⟨rfl, hb1⟩; replace HBW := lh hb1; clear hb1; obtain ⟨c0, c2, c3, c4, c5, c6⟩ := HC.out w1 HBW.out; have f0 := HF0.out w1 HBW.out; have hgl : g < w1.heap.size := Nat.lt_of_lt_of_le HGL.out HBW.out.size))
         go_ret
         exact ⟨by rw [HRB.out]; rfl, HEND.out _ HBW.out⟩)
 · have HF0 : Hid (∀ V, Below X.heap.size X V → True) := lh (fun _ _ => trivial)
   clear hfirst
   rcases hbad with ⟨rfl, f1, f2, f3, f4, f5, f6, f7, f8, f9⟩ | ⟨rfl, f1, f2, f3, f4, f5, f6, f7, f8, f9⟩ | ⟨rfl, f1, f2, f3, f4, f5, f6, f7, f8, f9⟩ | ⟨rfl, f1, f2, f3, f4, f5, f6, f7, f8, f9⟩ | ⟨rfl, f1, f2, f3, f4, f5, f6, f7, f8, f9⟩ | ⟨rfl, f1, f2, f3, f4, f5, f6, f7, f8, f9⟩ | ⟨rfl, f1, f2, f3, f4, f5, f6, f7, f8, f9⟩ | ⟨rfl, f1, f2, f3, f4, f5, f6, f7, f8, f9⟩ | ⟨rfl, f1, f2, f3, f4, f5, f6, f7, f8, f9⟩ | ⟨rfl, f1, f2, f3, f4, f5, f6, f7, f8, f9⟩ | ⟨rfl, f1, f2, f3, f4, f5, f6, f7, f8, f9⟩ | ⟨rfl, f1, f2, f3, f4, f5, f6, f7, f8, f9⟩ | ⟨rfl, f1, f2, f3, f4, f5, f6, f7, f8, f9⟩ | ⟨rfl, f1, f2, f3, f4, f5, f6, f7, f8, f9⟩ | ⟨rfl, f1, f2, f3, f4, f5, f6, f7, f8, f9⟩ | ⟨rfl, f1, f2, f3, f4, f5, f6, f7, f8, f9⟩ | ⟨rfl, f1, f2, f3, f4, f5, f6, f7, f8, f9⟩ | ⟨rfl, f1, f2, f3, f4, f5, f6, f7, f8, f9⟩ | ⟨rfl, f1, f2, f3, f4, f5, f6, f7, f8, f9⟩ | ⟨rfl, f1, f2, f3, f4, f5, f6, f7, f8, f9⟩ | ⟨rfl, f1, f2, f3, f4, f5, f6, f7, f8, f9⟩ | ⟨rfl, f1, f2, f3, f4, f5, f6, f7, f8, f9⟩ | ⟨rfl, f1, f2, f3, f4, f5, f6, f7, f8, f9⟩ | ⟨rfl, f1, f2, f3, f4, f5, f6, f7, f8, f9⟩ | ⟨rfl, f1, f2, f3, f4, f5, f6, f7, f8, f9⟩ | ⟨rfl, f1, f2, f3, f4, f5, f6, f7, f8, f9⟩ | ⟨rfl, f1, f2, f3, f4, f5, f6, f7, f8, f9⟩ | ⟨rfl, f1, f2, f3, f4, f5, f6, f7, f8, f9⟩ | ⟨rfl, f1, f2, f3, f4, f5, f6, f7, f8, f9⟩ | ⟨rfl, f1, f2, f3, f4, f5, f6, f7, f8, f9⟩ | ⟨rfl, f1, f2, f3, f4, f5, f6, f7, f8, f9⟩ | ⟨rfl, f1, f2, f3, f4, f5, f6, f7, f8, f9⟩ | ⟨rfl, f1, f2, f3, f4, f5, f6, f7, f8, f9⟩ | ⟨rfl, f1, f2, f3, f4, f5, f6, f7, f8, f9⟩ | ⟨rfl, f1, f2, f3, f4, f5, f6, f7, f8, f9⟩ | ⟨rfl, f1, f2, f3, f4, f5, f6, f7, f8, f9⟩ | ⟨rfl, f1, f2, f3, f4, f5, f6, f7, f8, f9⟩ | ⟨rfl, f1, f2, f3, f4, f5, f6, f7, f8, f9⟩ | ⟨rfl, f1, f2, f3, f4, f5, f6, f7, f8, f9⟩ | ⟨rfl, f1, f2, f3, f4, f5, f6, f7, f8, f9⟩ | ⟨rfl, f1, f2, f3, f4, f5, f6, f7, f8, f9⟩ | ⟨rfl, f1, f2, f3, f4, f5, f6, f7, f8, f9⟩ | ⟨rfl, f1, f2, f3, f4, f5, f6, f7, f8, f9⟩ | ⟨rfl, f1, f2, f3, f4, f5, f6, f7, f8, f9⟩ | ⟨rfl, f1, f2, f3, f4, f5, f6, f7, f8, f9⟩ | ⟨rfl, f1, f2, f3, f4, f5, f6, f7, f8, f9⟩ | ⟨rfl, f1, f2, f3, f4, f5, f6, f7, f8, f9⟩ | ⟨rfl, f1, f2, f3, f4, f5, f6, f7, f8, f9⟩ | ⟨rfl, f1, f2, f3, f4, f5, f6, f7, f8, f9⟩ | ⟨rfl, f1, f2, f3, f4, f5, f6, f7, f8, f9⟩ | ⟨rfl, f1, f2, f3, f4, f5, f6, f7, f8, f9⟩ | ⟨rfl, f1, f2, f3, f4, f5, f6, f7, f8, f9⟩ | ⟨rfl, f1, f2, f3, f4, f5, f6, f7, f8, f9⟩ | ⟨rfl, f1, f2, f3, f4, f5, f6, f7, f8, f9⟩ | ⟨rfl, f1, f2, f3, f4, f5, f6, f7, f8, f9⟩ | ⟨rfl, f1, f2, f3, f4, f5, f6, f7, f8, f9⟩ | ⟨rfl, f1, f2, f3, f4, f5, f6, f7, f8, f9⟩ | ⟨rfl, f1, f2, f3, f4, f5, f6, f7, f8, f9⟩ | ⟨rfl, f1, f2, f3, f4, f5, f6, f7, f8, f9⟩ | ⟨rfl, f1, f2, f3, f4, f5, f6, f7, f8, f9⟩
   all_goals
    first
    | (exfalso; omega)
    | ((try subst f1); (try subst f2); (try subst f3); (try subst f4); (try subst f5); (try subst f6); (try subst f7); (try subst f8)
       simp [exN] at hxk; subst hxk
       go_wp2_with (first
      | ((with_reducible refine (HNM.out _ HBW.out).mono ?_); rintro e w1 ⟨rfl, hb1⟩; replace HBW := lh hb1; clear hb1; obtain ⟨c0, c2, c3, c4, c5, c6⟩ := HC.out w1 HBW.out; have f0 := HF0.out w1 HBW.out; have hgl : g < w1.heap.size := Nat.lt_of_lt_of_le HGL.out HBW.out.size)
      | ((with_reducible refine (HNT.out _ HBW.out).mono ?_); rintro e w1 ⟨rfl, hb1⟩; replace HBW := lh hb1; clear hb1; obtain ⟨c0, c2, c3, c4, c5, c6⟩ := HC.out w1 HBW.out; have f0 := HF0.out w1 HBW.out; have hgl : g < w1.heap.size := Nat.lt_of_lt_of_le HGL.out HBW.out.size)
      | ((with_reducible refine (HTY.out _ HBW.out).mono ?_); rintro e w1 ⟨A', c', rfl, hb1⟩; replace HBW := lh hb1; clear hb1; obtain ⟨c0, c2, c3, c4, c5, c6⟩ := HC.out w1 HBW.out; have f0 := HF0.out w1 HBW.out; have hgl : g < w1.heap.size := Nat.lt_of_lt_of_le HGL.out HBW.out.size)
      | ((with_reducible refine (HXQ.out _ HBW.out).mono ?_); rintro e w1 ⟨rfl, hb1⟩; replace HBW := lh hb1; clear hb1; obtain ⟨c0, c2, c3, c4, c5, c6⟩ := HC.out w1 HBW.out; have f0 := HF0.out w1 HBW.out; have hgl : g < w1.heap.size := Nat.lt_of_lt_of_le HGL.out HBW.out.size))
       go_ret
       exact ⟨by rw [HRB.out]; rfl, HEND.out _ HBW.out⟩)
end Go.Proofs.YtodociiaobjfgaaGreatDoor
