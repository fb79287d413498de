/- Koc -/
import Derived.Test.YtodociiaobjfgaaGreatDoorVe0
set_option linter.unusedVariables false
set_option linter.unusedSimpArgs false
namespace Go.Proofs.YtodociiaobjfgaaGreatDoor
open Go.RowKit
set_option maxHeartbeats 40000000 in
set_option maxRecDepth 100000 in
theorem rdecl_ok {w X : World} {g : Nat} {k p num : Int} {SN ST : ByteArray} {A5 A6 : Option Addr} {m5 m6 np nb tn : Nat} {bn em : Bool} {left ow : Int} {prs : List Pr} {bd : List Sm} {R P : Int} (F : DcF w X g k p num SN ST A5 A6 m5 m6 np nb tn bn em left ow prs bd) (HP : Hid (P = if k = 3 then (if 8 < (np : Int) then -1 else Xcn prs (left - ow - np)) else if k = 7 then (if 4 < (np : Int) then -1 else Xcn prs (left - ow - ((np - 1 : Nat) : Int))) else left - ow)) (HR : Hid (R = if 0 ≤ P ∧ (k = 7 ∨ k = 8) then Xbw bd 1 P else P)) (hok : okD k bn em tn num nb np ow) :
  Calls Tryz.prog 17 #[.agg #[.int .i64 k, .int .i64 p, .int .i64 num, .string SN, .string ST, .slice A5 np m5, .slice A6 nb m6], .int .i64 left] w fun e w' => e = .returned (.int .i64 R) ∧ Below g w w' := by
 obtain ⟨HX, HG, HGL, HC, HNM, HTY, HPR, HBD, HEND, HLE, hse, ht3, hnp, hl0, hl1⟩ := F
 have HBW := lh (Below.refl X.heap.size X)
 go_enter Tryz.func17, Tryz.ntmps17
 go_upto_region 1 with fail
 rw [← HG.out, ← HX.out]
 obtain ⟨c0, c2, c3, c4, c5, c6⟩ := HC.out X HBW.out
 clear HPR HBD HLE
 rcases hok with ⟨rfl, f0x, f1, f2, f3, f4, f5, f6⟩ | ⟨rfl, f0x, f1, f2, f3, f4, f5, f6⟩ | ⟨rfl, f0x, f1, f2, f3, f4, f5, f6⟩ | ⟨rfl, f0x, f1, f2, f3, f4, f5, f6⟩ | ⟨rfl, f0x, f1, f2, f3, f4, f5, f6⟩
 all_goals
  (try subst f0x); (try subst f1); (try subst f2); (try subst f3); (try subst f4); (try subst f5); (try subst f6)
  have HR1 : Hid (R = P) := lh (by rw [HR.out, if_neg (fun h => by omega)])
  have HR2 := HR1.out.trans HP.out
  simp only [reduceIte, Int.reduceEq] at HR2
  have HR3 := lh HR2
  clear HR HR1 HP HR2
  go_wp2_with (first
    | ((with_reducible refine (HNM.out _ HBW.out).mono ?_); rintro e w1 ⟨rfl, hb1⟩; replace HBW := lh hb1; clear hb1; obtain ⟨c0, c2, c3, c4, c5, c6⟩ := HC.out w1 HBW.out; have hgl : g < w1.heap.size := Nat.lt_of_lt_of_le HGL.out HBW.out.size)
    | ((with_reducible refine (HTY.out _ HBW.out).mono ?_); rintro e w1 ⟨A', c', rfl, hb1⟩; replace HBW := lh hb1; clear hb1; obtain ⟨c0, c2, c3, c4, c5, c6⟩ := HC.out w1 HBW.out; have hgl : g < w1.heap.size := Nat.lt_of_lt_of_le HGL.out HBW.out.size))
  all_goals
   go_ret
   exact ⟨by rw [HR3.out]; rfl, HEND.out _ (HBW.out.alloc HBW.out.size _)⟩
set_option maxHeartbeats 40000000 in
set_option maxRecDepth 100000 in
theorem Xwc {w X : World} {g : Nat} {k p num : Int} {SN ST : ByteArray} {A5 A6 : Option Addr} {m5 m6 np nb tn : Nat} {bn em : Bool} {left ow : Int} {prs : List Pr} {bd : List Sm} {R P : Int} (F : DcF w X g k p num SN ST A5 A6 m5 m6 np nb tn bn em left ow prs bd) (HP : Hid (P = if k = 3 then (if 8 < (np : Int) then -1 else Xcn prs (left - ow - np)) else if k = 7 then (if 4 < (np : Int) then -1 else Xcn prs (left - ow - ((np - 1 : Nat) : Int))) else left - ow)) (HR : Hid (R = if 0 ≤ P ∧ (k = 7 ∨ k = 8) then Xbw bd 1 P else P)) (hok : okD8 k bn em tn num nb np ow) :
  Calls Tryz.prog 17 #[.agg #[.int .i64 k, .int .i64 p, .int .i64 num, .string SN, .string ST, .slice A5 np m5, .slice A6 nb m6], .int .i64 left] w fun e w' => e = .returned (.int .i64 R) ∧ Below g w w' := by
 obtain ⟨HX, HG, HGL, HC, HNM, HTY, HPR, HBD, HEND, HLE, hse, ht3, hnp, hl0, hl1⟩ := F
 have HBW := lh (Below.refl X.heap.size X)
 go_enter Tryz.func17, Tryz.ntmps17
 go_upto_region 1 with fail
 rw [← HG.out, ← HX.out]
 obtain ⟨c0, c2, c3, c4, c5, c6⟩ := HC.out X HBW.out
 clear HPR HLE
 obtain ⟨rfl, f0x, f1, f2, f3, f4, f5, f6⟩ := hok
 (try subst f0x); (try subst f1); (try subst f2); (try subst f3); (try subst f4); (try subst f5); (try subst f6)
 have HP2 := HP.out
 simp only [reduceIte, Int.reduceEq] at HP2
 by_cases s0 : 0 ≤ left - 2
 · have HR3 : Hid (R = Xbw bd 1 P) := lh (by rw [HR.out, if_pos ⟨by omega, .inr rfl⟩])
   have hbc : ∀ l V, l = left - 2 → Below X.heap.size X V → Calls Tryz.prog 33 #[.slice A6 nb m6, .int .i64 1, .int .i64 l] V fun e w' => e = .returned (.int .i64 R) ∧ Below X.heap.size X w' := fun l V h hV => by
    rw [HR3.out, HP2, ← h]; exact HBD.out l V hV (by omega) (by omega)
   have HBC := lh hbc
   clear HR HP HP2 HR3 HBD hbc
   go_wp2_with (first
    | ((with_reducible refine (HNM.out _ HBW.out).mono ?_); rintro e w1 ⟨rfl, hb1⟩; replace HBW := lh hb1; clear hb1; obtain ⟨c0, c2, c3, c4, c5, c6⟩ := HC.out w1 HBW.out; have hgl : g < w1.heap.size := Nat.lt_of_lt_of_le HGL.out HBW.out.size)
    | ((with_reducible refine (HTY.out _ HBW.out).mono ?_); rintro e w1 ⟨A', c', rfl, hb1⟩; replace HBW := lh hb1; clear hb1; obtain ⟨c0, c2, c3, c4, c5, c6⟩ := HC.out w1 HBW.out; have hgl : g < w1.heap.size := Nat.lt_of_lt_of_le HGL.out HBW.out.size)
    | ((with_reducible refine (HBC.out _ _ (by omega) (HBW.out.alloc HBW.out.size _)).mono ?_); rintro e w2 ⟨rfl, hb2⟩; have HB2 := lh hb2; clear hb2))
   go_ret
   exact ⟨rfl, HEND.out _ HB2.out⟩
 · have HR3 : Hid (R = left - 2) := lh (by rw [HR.out, if_neg (fun h => by omega), HP2])
   clear HR HP HP2 HBD
   go_wp2_with (first
     | ((with_reducible refine (HNM.out _ HBW.out).mono ?_); rintro e w1 ⟨rfl, hb1⟩; replace HBW := lh hb1; clear hb1; obtain ⟨c0, c2, c3, c4, c5, c6⟩ := HC.out w1 HBW.out; have hgl : g < w1.heap.size := Nat.lt_of_lt_of_le HGL.out HBW.out.size)
     | ((with_reducible refine (HTY.out _ HBW.out).mono ?_); rintro e w1 ⟨A', c', rfl, hb1⟩; replace HBW := lh hb1; clear hb1; obtain ⟨c0, c2, c3, c4, c5, c6⟩ := HC.out w1 HBW.out; have hgl : g < w1.heap.size := Nat.lt_of_lt_of_le HGL.out HBW.out.size))
   go_ret
   exact ⟨by rw [HR3.out]; rfl, HEND.out _ (HBW.out.alloc HBW.out.size _)⟩
set_option maxHeartbeats 40000000 in
set_option maxRecDepth 100000 in
theorem Xwa {w X : World} {g : Nat} {k p num : Int} {SN ST : ByteArray} {A5 A6 : Option Addr} {m5 m6 np nb tn : Nat} {bn em : Bool} {left ow : Int} {prs : List Pr} {bd : List Sm} {R P : Int} (F : DcF w X g k p num SN ST A5 A6 m5 m6 np nb tn bn em left ow prs bd) (HP : Hid (P = if k = 3 then (if 8 < (np : Int) then -1 else Xcn prs (left - ow - np)) else if k = 7 then (if 4 < (np : Int) then -1 else Xcn prs (left - ow - ((np - 1 : Nat) : Int))) else left - ow)) (HR : Hid (R = if 0 ≤ P ∧ (k = 7 ∨ k = 8) then Xbw bd 1 P else P)) (hok : okD3 k bn em tn num nb np ow) :
  Calls Tryz.prog 17 #[.agg #[.int .i64 k, .int .i64 p, .int .i64 num, .string SN, .string ST, .slice A5 np m5, .slice A6 nb m6], .int .i64 left] w fun e w' => e = .returned (.int .i64 R) ∧ Below g w w' := by
 obtain ⟨HX, HG, HGL, HC, HNM, HTY, HPR, HBD, HEND, HLE, hse, ht3, hnp, hl0, hl1⟩ := F
 have HBW := lh (Below.refl X.heap.size X)
 go_enter Tryz.func17, Tryz.ntmps17
 go_upto_region 1 with fail
 rw [← HG.out, ← HX.out]
 obtain ⟨c0, c2, c3, c4, c5, c6⟩ := HC.out X HBW.out
 clear HBD HLE
 obtain ⟨rfl, f0x, f1, f2, f3, f4, f5, f6⟩ := hok
 (try subst f0x); (try subst f1); (try subst f2); (try subst f3); (try subst f4); (try subst f5); (try subst f6)
 have HP2 := HP.out
 simp only [reduceIte, Int.reduceEq] at HP2
 have HR3 : Hid (R = P) := lh (by rw [HR.out, if_neg (fun h => by omega)])
 have hpc : ∀ l V, l = left - 4 - np → Below X.heap.size X V → Calls Tryz.prog 32 #[.slice A5 np m5, .int .i64 8, .int .i64 l] V fun e w' => e = .returned (.int .i64 P) ∧ Below X.heap.size X w' := fun l V h hV => by
  rw [HP2, ← h]; exact HPR.out 8 l V hV (by omega) (by omega) (by omega) (by omega)
 have HPC := lh hpc
 clear HR HP HP2 HPR hpc
 rcases (show P < 0 ∨ 0 ≤ P by omega) with s0 | s0
 all_goals
  go_wp2_with (first
   | ((with_reducible refine (HNM.out _ HBW.out).mono ?_); rintro e w1 ⟨rfl, hb1⟩; replace HBW := lh hb1; clear hb1; obtain ⟨c0, c2, c3, c4, c5, c6⟩ := HC.out w1 HBW.out; have hgl : g < w1.heap.size := Nat.lt_of_lt_of_le HGL.out HBW.out.size)
   | ((with_reducible refine (HTY.out _ HBW.out).mono ?_); rintro e w1 ⟨A', c', rfl, hb1⟩; replace HBW := lh hb1; clear hb1; obtain ⟨c0, c2, c3, c4, c5, c6⟩ := HC.out w1 HBW.out; have hgl : g < w1.heap.size := Nat.lt_of_lt_of_le HGL.out HBW.out.size)
   | ((with_reducible refine (HPC.out _ _ (by omega) (HBW.out.alloc HBW.out.size _)).mono ?_); rintro e w2 ⟨rfl, hb2⟩; have HB2 := lh hb2; obtain ⟨c0, c2, c3, c4, c5, c6⟩ := HC.out w2 hb2; clear hb2))
  go_ret
  exact ⟨by rw [HR3.out]; rfl, HEND.out _ HB2.out⟩
set_option maxHeartbeats 40000000 in
set_option maxRecDepth 100000 in
theorem Xwb {w X : World} {g : Nat} {k p num : Int} {SN ST : ByteArray} {A5 A6 : Option Addr} {m5 m6 np nb tn : Nat} {bn em : Bool} {left ow : Int} {prs : List Pr} {bd : List Sm} {R P : Int} (F : DcF w X g k p num SN ST A5 A6 m5 m6 np nb tn bn em left ow prs bd) (HP : Hid (P = if k = 3 then (if 8 < (np : Int) then -1 else Xcn prs (left - ow - np)) else if k = 7 then (if 4 < (np : Int) then -1 else Xcn prs (left - ow - ((np - 1 : Nat) : Int))) else left - ow)) (HR : Hid (R = if 0 ≤ P ∧ (k = 7 ∨ k = 8) then Xbw bd 1 P else P)) (hok : okD7 k bn em tn num nb np ow) :
  Calls Tryz.prog 17 #[.agg #[.int .i64 k, .int .i64 p, .int .i64 num, .string SN, .string ST, .slice A5 np m5, .slice A6 nb m6], .int .i64 left] w fun e w' => e = .returned (.int .i64 R) ∧ Below g w w' := by
 obtain ⟨HX, HG, HGL, HC, HNM, HTY, HPR, HBD, HEND, HLE, hse, ht3, hnp, hl0, hl1⟩ := F
 have HBW := lh (Below.refl X.heap.size X)
 go_enter Tryz.func17, Tryz.ntmps17
 go_upto_region 1 with fail
 rw [← HG.out, ← HX.out]
 obtain ⟨c0, c2, c3, c4, c5, c6⟩ := HC.out X HBW.out
 obtain ⟨E, hE⟩ : ∃ E : Int, E = left - ow - ((np - 1 : Nat) : Int) := ⟨_, rfl⟩
 have hP1 : k = 7 → P ≤ 100000 := fun h => by
  rw [HP.out, if_neg (by omega), if_pos h]
  split
  · omega
  · refine HLE.out _ ?_
    unfold okD7 at hok
    omega
 have hpc : k = 7 → ∀ l V, l = E → Below X.heap.size X V → -10000000 ≤ E → E ≤ 100000 → Calls Tryz.prog 32 #[.slice A5 np m5, .int .i64 4, .int .i64 l] V fun e w' => e = .returned (.int .i64 P) ∧ Below X.heap.size X w' := fun h l V hl hV h1 h2 => by
  rw [HP.out, if_neg (by omega), if_pos h, ← hE, ← hl]; exact HPR.out 4 l V hV (by omega) (by omega) (by omega) (by omega)
 have hR0 : k = 7 → 0 ≤ P → R = Xbw bd 1 P := fun h h0 => by rw [HR.out, if_pos ⟨h0, .inl h⟩]
 have hR1 : ¬ 0 ≤ P → R = P := fun h0 => by rw [HR.out, if_neg (fun h => h0 h.1)]
 clear HP HR
 have hok7 : k = 7 := by unfold okD7 at hok; omega
 have hpc7 := hpc hok7
 have hP17 := hP1 hok7
 have hR07 := hR0 hok7
 clear hpc hP1 hR0
 rcases hok with ⟨rfl, f0x, f1, f2, f3, f4, f5, f6⟩ | ⟨rfl, f0x, f1, f2, f3, f4, f5, f6⟩
 all_goals
  clear hok7
  (try subst f0x); (try subst f1); (try subst f2); (try subst f3); (try subst f4); (try subst f5); (try subst f6)
  have HPC : Hid (∀ l V, l = E → Below X.heap.size X V → Calls Tryz.prog 32 #[.slice A5 np m5, .int .i64 4, .int .i64 l] V fun e w' => e = .returned (.int .i64 P) ∧ Below X.heap.size X w') := lh fun l V h hV => hpc7 l V h hV (by omega) (by omega)
  clear hpc7 HPR HLE
  rcases (show np = 0 ∨ 1 ≤ np by omega) with n0 | n0
  all_goals
   (try subst n0)
   by_cases s0 : 0 ≤ P
   · have HBC : Hid (∀ V, Below X.heap.size X V → Calls Tryz.prog 33 #[.slice A6 nb m6, .int .i64 1, .int .i64 P] V fun e w' => e = .returned (.int .i64 R) ∧ Below X.heap.size X w') := lh fun V hV => by rw [hR07 s0]; exact HBD.out P V hV s0 hP17
     clear hR07 hR1 HBD
     go_wp2_with (first
      | ((with_reducible refine (HNM.out _ HBW.out).mono ?_); rintro e w1 ⟨rfl, hb1⟩; replace HBW := lh hb1; clear hb1; obtain ⟨c0, c2, c3, c4, c5, c6⟩ := HC.out w1 HBW.out; have hgl : g < w1.heap.size := Nat.lt_of_lt_of_le HGL.out HBW.out.size)
      | ((with_reducible refine (HTY.out _ HBW.out).mono ?_); rintro e w1 ⟨A', c', rfl, hb1⟩; replace HBW := lh hb1; clear hb1; obtain ⟨c0, c2, c3, c4, c5, c6⟩ := HC.out w1 HBW.out; have hgl : g < w1.heap.size := Nat.lt_of_lt_of_le HGL.out HBW.out.size)
      | ((with_reducible refine (HPC.out _ _ (by omega) (HBW.out.alloc HBW.out.size _)).mono ?_); rintro e w2 ⟨rfl, hb2⟩; have HB2 := lh hb2; obtain ⟨c0, c2, c3, c4, c5, c6⟩ := HC.out w2 hb2; clear hb2)
      | ((with_reducible refine (HBC.out _ HB2.out).mono ?_); rintro e w3 ⟨rfl, hb3⟩; have HB3 := lh hb3; clear hb3))
     go_ret
     exact ⟨rfl, HEND.out _ HB3.out⟩
   · have HR3 : Hid (R = P) := lh (hR1 s0)
     clear hR07 hR1 HBD
     go_wp2_with (first
      | ((with_reducible refine (HNM.out _ HBW.out).mono ?_); rintro e w1 ⟨rfl, hb1⟩; replace HBW := lh hb1; clear hb1; obtain ⟨c0, c2, c3, c4, c5, c6⟩ := HC.out w1 HBW.out; have hgl : g < w1.heap.size := Nat.lt_of_lt_of_le HGL.out HBW.out.size)
      | ((with_reducible refine (HTY.out _ HBW.out).mono ?_); rintro e w1 ⟨A', c', rfl, hb1⟩; replace HBW := lh hb1; clear hb1; obtain ⟨c0, c2, c3, c4, c5, c6⟩ := HC.out w1 HBW.out; have hgl : g < w1.heap.size := Nat.lt_of_lt_of_le HGL.out HBW.out.size)
      | ((with_reducible refine (HPC.out _ _ (by omega) (HBW.out.alloc HBW.out.size _)).mono ?_); rintro e w2 ⟨rfl, hb2⟩; have HB2 := lh hb2; obtain ⟨c0, c2, c3, c4, c5, c6⟩ := HC.out w2 hb2; clear hb2))
     go_ret
     exact ⟨by rw [HR3.out]; rfl, HEND.out _ HB2.out⟩
end Go.Proofs.YtodociiaobjfgaaGreatDoor
