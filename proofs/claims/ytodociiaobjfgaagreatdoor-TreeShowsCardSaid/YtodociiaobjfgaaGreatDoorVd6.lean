/- Kmc -/
import Derived.Test.YtodociiaobjfgaaGreatDoorVe0
set_option linter.unusedVariables false
set_option linter.unusedSimpArgs false
namespace Go.Proofs.YtodociiaobjfgaaGreatDoor
open Go.RowKit
set_option maxHeartbeats 40000000 in
set_option maxRecDepth 100000 in
theorem Xwf {w X : World} {g : Nat} {k p : Int} {SN ST : ByteArray} {A A2 A3 : Option Addr} {c m2 m3 nx nb nl tn : Nat} {bn bt bz em : Bool} {fk depth left ow L1 xk : Int} {ex : List Ex} {bd el : List Sm} {R : Int} (F : StF w X g k p SN ST A A2 A3 c m2 m3 nx nb nl tn bn bt bz em fk depth left ow L1 xk ex bd el) (HR : Hid (R = Xfv el (depth + 1) (Xfa k bd (depth + 1) L1))) (hl1' : 1 ≤ left) (hk : k = 1 ∨ k = 5 ∨ k = 6 ∨ k = 11) (hok : okS k bn bz em bt tn nx nb nl fk ow) :
  Calls Tryz.prog 49 #[.agg #[.int .i64 k, .int .i64 p, .string SN, .string ST, .slice A nx c, .slice A2 nb m2, .slice A3 nl m3], .int .i64 depth, .int .i64 left] w fun e w' => e = .returned (.int .i64 R) ∧ Below g w w' := by
 obtain ⟨HX, HG, HGL, HC, HNM, HNT, HTY, HXP, HBD, HEL, HEX, HEND, HST, HNX, HNB, HNL, HL2, HFK, hsn, hse, ht3, hd0, hd, hl0, hl1, hL1le, hxk⟩ := F
 have HK := lh hk
 clear HL2 HBD HEL HFK hk
 have HBW := lh (Below.refl X.heap.size X)
 go_enter Tryz.func49, Tryz.ntmps49
 go_upto_region 1 with fail
 rw [← HG.out, ← HX.out]
 obtain ⟨c0, c2, c3, c4, c5, c6⟩ := HC.out X HBW.out
 have hkk : 1 ≤ k ∧ k ≤ 11 := by rcases hok with ⟨rfl, f0x, f1, f2, f3, f4, f5, f6, f7, f8, f9⟩ | ⟨rfl, f0x, f1, f2, f3, f4, f5, f6, f7, f8, f9⟩ | ⟨rfl, f0x, f1, f2, f3, f4, f5, f6, f7, f8, f9⟩ | ⟨rfl, f0x, f1, f2, f3, f4, f5, f6, f7, f8, f9⟩ | ⟨rfl, f0x, f1, f2, f3, f4, f5, f6, f7, f8, f9⟩ | ⟨rfl, f0x, f1, f2, f3, f4, f5, f6, f7, f8, f9⟩ | ⟨rfl, f0x, f1, f2, f3, f4, f5, f6, f7, f8, f9⟩ | ⟨rfl, f0x, f1, f2, f3, f4, f5, f6, f7, f8, f9⟩ | ⟨rfl, f0x, f1, f2, f3, f4, f5, f6, f7, f8, f9⟩ | ⟨rfl, f0x, f1, f2, f3, f4, f5, f6, f7, f8, f9⟩ | ⟨rfl, f0x, f1, f2, f3, f4, f5, f6, f7, f8, f9⟩ | ⟨rfl, f0x, f1, f2, f3, f4, f5, f6, f7, f8, f9⟩ <;> omega
 have HXQ := lh (HXP.out hkk.1 hkk.2)
 clear HXP hkk
 have HF0 : Hid (∀ V, Below X.heap.size X V → True) := lh (fun _ _ => trivial)
 rcases hok with ⟨rfl, f0x, f1, f2, f3, f4, f5, f6, f7, f8, f9⟩ | ⟨rfl, f0x, f1, f2, f3, f4, f5, f6, f7, f8, f9⟩ | ⟨rfl, f0x, f1, f2, f3, f4, f5, f6, f7, f8, f9⟩ | ⟨rfl, f0x, f1, f2, f3, f4, f5, f6, f7, f8, f9⟩ | ⟨rfl, f0x, f1, f2, f3, f4, f5, f6, f7, f8, f9⟩ | ⟨rfl, f0x, f1, f2, f3, f4, f5, f6, f7, f8, f9⟩ | ⟨rfl, f0x, f1, f2, f3, f4, f5, f6, f7, f8, f9⟩ | ⟨rfl, f0x, f1, f2, f3, f4, f5, f6, f7, f8, f9⟩ | ⟨rfl, f0x, f1, f2, f3, f4, f5, f6, f7, f8, f9⟩ | ⟨rfl, f0x, f1, f2, f3, f4, f5, f6, f7, f8, f9⟩ | ⟨rfl, f0x, f1, f2, f3, f4, f5, f6, f7, f8, f9⟩ | ⟨rfl, f0x, f1, f2, f3, f4, f5, f6, f7, f8, f9⟩
 all_goals first
  | (exfalso; have hk := HK.out; omega)
  | (clear HK
     (try subst f0x); (try subst f1); (try subst f2); (try subst f3); (try subst f4); (try subst f5); (try subst f6); (try subst f7); (try subst f8)
     simp [exN] at hxk; subst hxk
     (try have dn1 : decide (1 < nx) = true := decide_eq_true (by omega))
     (try have dn2 : decide (1 < (nx : Int)) = true := decide_eq_true (by omega))
     have HR1 : Hid (R = L1) := lh (by rw [HR.out]; unfold Xfv Xfa; rw [if_pos HNL.out.symm, if_neg (fun h => by omega)])
     clear HR
     go_wp2_with (first
      | ((with_reducible refine (HNM.out _ HBW.out).mono ?_); rintro e w1 ⟨rfl, hb1⟩; replace HBW := lh hb1; clear hb1; obtain ⟨c0, c2, c3, c4, c5, c6⟩ := HC.out w1 HBW.out; have f0 := HF0.out w1 HBW.out; have hgl : g < w1.heap.size := Nat.lt_of_lt_of_le HGL.out HBW.out.size)
      | ((with_reducible refine (HNT.out _ HBW.out).mono ?_); rintro e w1 ⟨rfl, hb1⟩; replace HBW := lh hb1; clear hb1; obtain ⟨c0, c2, c3, c4, c5, c6⟩ := HC.out w1 HBW.out; have f0 := HF0.out w1 HBW.out; have hgl : g < w1.heap.size := Nat.lt_of_lt_of_le HGL.out HBW.out.size)
      | ((with_reducible refine (HTY.out _ HBW.out).mono ?_); rintro e w1 ⟨A', c', rfl, hb1⟩; replace HBW := lh hb1; clear hb1; obtain ⟨c0, c2, c3, c4, c5, c6⟩ := HC.out w1 HBW.out; have f0 := HF0.out w1 HBW.out; have hgl : g < w1.heap.size := Nat.lt_of_lt_of_le HGL.out HBW.out.size)
      | ((with_reducible refine (HXQ.out _ HBW.out).mono ?_); rintro e w1 ⟨rfl, hb1⟩; replace HBW := lh hb1; clear hb1; obtain ⟨c0, c2, c3, c4, c5, c6⟩ := HC.out w1 HBW.out; have f0 := HF0.out w1 HBW.out; have hgl : g < w1.heap.size := Nat.lt_of_lt_of_le HGL.out HBW.out.size))
     go_loopw [2, 11] (fun l i wr => ∃ (j : Nat) (ll : Int), j ≤ ex.length ∧ i = .int .i64 j ∧ l = .int .i64 ll ∧ ll ≤ 100000 ∧ Hid (exsB (ex.drop j) (depth + 1) ll = L1) ∧ Hid (Below X.heap.size X wr)) (fun _ i _ => ex.length - (intOf i).toNat)
     case atStart => exact ⟨0, _, Nat.zero_le _, rfl, rfl, by omega, lh (HST.out _ (by omega)), lh (HBW.out.alloc HBW.out.size _)⟩
     case round =>
      obtain ⟨wo, rfl⟩ : ∃ wo : World, wo = wr := ⟨_, rfl⟩
      obtain ⟨j, ll, hj, rfl, rfl, hll, HQ, HBL⟩ := hrel
      obtain ⟨c0, c2, c3, c4, c5, c6⟩ := HC.out wo HBL.out
      by_cases hlt : j < ex.length
      · have hlt2 := hlt
        rw [← HNX.out] at hlt2
        first
        | (exfalso; omega)
        | (by_cases hl0 : 0 ≤ ll
           · obtain ⟨b, off, yk, yp, yn, ys, yv, hAe, hcl, -, hcc⟩ := HEX.out j hlt
             subst hAe
             obtain ⟨r0, r1, r2, r3, r4⟩ := hcl wo HBL.out
             have hcc := hcc ll wo HBL.out hll
             have hgo := Xjh hlt (depth + 1) hl0
             have hle := Xfl (e := ex[j]) (d := depth + 1) (c := 0) (by omega) hl0
             obtain ⟨lv, hlv⟩ : ∃ x, x = Xdb ex[j] (depth + 1) 0 ll := ⟨_, rfl⟩
             rw [← hlv] at hcc hgo hle
             have HCC := lh hcc
             have HQ2 : Hid (exsB (ex.drop (j + 1)) (depth + 1) lv = L1) := lh (by rw [← hgo]; exact HQ.out)
             have hlv2 : lv ≤ 100000 := by omega
             clear hcl hcc hgo hle hlv HQ
             go_wp2_with (first | ((with_reducible refine HCC.out.mono ?_); rintro e w2 ⟨rfl, hb2⟩; have HB2 := lh hb2; clear hb2))
             go_roundw
             case rel => exact ⟨j + 1, lv, by omega, by go_num, rfl, hlv2, HQ2, HB2⟩
             case measure => simp [intOf]; omega
           · have he : ll = L1 := by rw [← HQ.out, Xgl _ _ (by omega)]
             subst he
             go_wp2
             go_ret
             exact ⟨by rw [HR1.out]; rfl, HEND.out _ HBL.out⟩)
      · have hlt2 := hlt
        rw [← HNX.out] at hlt2
        have he : ll = L1 := by rw [← HQ.out, List.drop_of_length_le (by omega), exsB]
        subst he
        rcases (show ll < 0 ∨ ll = 0 ∨ 1 ≤ ll by omega) with s0 | s0 | s0
        all_goals
         (try subst s0)
         go_wp2
         go_ret
         exact ⟨by rw [HR1.out]; rfl, HEND.out _ HBL.out⟩)
end Go.Proofs.YtodociiaobjfgaaGreatDoor
