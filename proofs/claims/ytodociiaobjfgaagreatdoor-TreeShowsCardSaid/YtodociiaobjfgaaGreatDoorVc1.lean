/- Xg -/
import Derived.Test.YtodociiaobjfgaaGreatDoorVc2
set_option linter.unusedVariables false
set_option linter.unusedSimpArgs false
namespace Go.Proofs.YtodociiaobjfgaaGreatDoor
open Go.RowKit
theorem fields_q {w0 w : World} {Bc Ba B : Nat} {u : Value} {T : List (List UInt8)} (hb : Below B w0 w) (hB : B ≤ w.heap.size) (hp : Xap w Bc Ba B u T) (ps : List Pr) {V : Value} (hr : Xcl w0 (· < B) ps V) (hsm : ∀ p ∈ ps, p.name.length ≤ 40000 ∧ p.type.length ≤ 40000) :
  Calls Tryz.prog 41 #[penV Bc Ba, V] w (Xal w Bc Ba B u (adv T (Xlq ps))) := Xsa hb hB hp ps hr hsm
theorem Xqq {w0 w : World} {Bc Ba B : Nat} {u : Value} {T : List (List UInt8)} (hb : Below B w0 w) (hB : B ≤ w.heap.size) (hp : Xap w Bc Ba B u T) (ps : List Pr) {V : Value} (hr : Xcl w0 (· < B) ps V) (hsm : ∀ p ∈ ps, p.name.length ≤ 40000 ∧ p.type.length ≤ 40000) :
  Calls Tryz.prog 44 #[penV Bc Ba, V] w (Xal w Bc Ba B u (adv T (Xjm ps))) := Xsm hb hB hp ps hr hsm
set_option maxRecDepth 100000 in
set_option maxHeartbeats 4000000 in
theorem decl_3 {w0 w : World} {Bc Ba B : Nat} {u : Value} {T : List (List UInt8)} {p n : Int} {nm ty : List UInt8} {ps : List Pr} {bd : List Sm} {vp vb : Value} (htab : Tab B w0) (hb : Below B w0 w) (hB : B ≤ w.heap.size) (hp : Xap w Bc Ba B u T) (hnl : nm.length ≤ 40000) (htl : ty.length ≤ 40000)
  (hps : Xcl w0 (· < B) ps vp) (hsm : ∀ p ∈ ps, p.name.length ≤ 40000 ∧ p.type.length ≤ 40000) (hbd : Xao w0 B bd vb) (hbs : ∃ A c, vb = .slice A bd.length c) (hq : Xam nm = true) :
  Calls Tryz.prog 29 #[penV Bc Ba, .agg #[.int .i64 3, .int .i64 p, .int .i64 n, .string (Xaa nm), .string (Xaa ty), vp, vb]] w (Xal w Bc Ba B u (adv T (penD ⟨3, p, n, nm, ty, ps, bd⟩))) := by
 obtain ⟨Ap, cp, hvp, _, _, _⟩ := id hps
 subst hvp
 obtain ⟨Ab, cb, hvb⟩ := hbs
 subst hvb
 obtain ⟨X, hX⟩ : ∃ X : World, X = w.alloc (.cells #[.int .i64 3, .int .i64 p, .int .i64 n, .string (Xaa nm), .string (Xaa ty), .slice Ap ps.length cp, .slice Ab bd.length cb] 41) := ⟨_, rfl⟩
 obtain ⟨g, hg⟩ : ∃ g, g = w.heap.size := ⟨_, rfl⟩
 have hd : Xar X g 3 p n (Xaa nm) (Xaa ty) (.slice Ap ps.length cp) (.slice Ab bd.length cb) := by rw [hX, hg]; exact Xar.new _ _ _ _ _ _ _ _
 have hw : Went w Bc Ba B u X u T := by rw [hX]; exact (Went.refl hp).alloc _
 have hg1 : Bc < g := by rw [hg]; exact Xab hp.cnt
 have hg2 : Ba < g := by rw [hg]; exact Xab hp.buf
 have hwg : w.heap.size ≤ g := by rw [hg]; exact Nat.le_refl _
 have hsz : (Xaa nm).size ≤ 40000 := by rw [Lib.size_eq, Xak]; exact hnl
 have HX := lh hX
 have HG := lh hg
 have HD := lh hd
 have HW := lh hw
 have HPS := lh hps
 have HSM := lh hsm
 clear hX hg hd hw hps hsm
 have HEQ := lh (congrArg (adv T) (penD_3 p n nm ty ps bd hq))
 have HTN := lh (Xba ⟨g, 3, none⟩ (Xaa nm) X HD.out.c3 (HD.out.frz 3) hsz hq)
 unfold penV
 go_enter Tryz.func29, Tryz.ntmps29
 go_wp2_with fail
 rw [← HX.out, ← HG.out]
 refine HTN.out.mono ?_
 rintro e1 w1 ⟨rfl, wm, hbl, hw1⟩
 have HW1 : Hid (Went w Bc Ba B u w1 u T) := lh (by rw [hw1]; exact (HW.out.below hbl).setCell _ _ hwg ((HD.out).apart (HW.out).1 hg1 hg2))
 have HD1 := lh (show Xar w1 g 3 p n (Xaa []) (Xaa ty) (.slice Ap ps.length cp) (.slice Ab bd.length cb) from by rw [hw1]; exact (HD.out.below hbl HD.out.lt).s3 _)
 clear hbl hw1
 have a2 := (HD1.out).c0
 go_wp2_with fail
 refine (Xaq (Went.refl (HW1.out).1) (Nat.le_trans hB (HW1.out).2.2.size) [[115, 116, 114, 117, 99, 116], nm] (by intro t ht; simp at ht; have := hnl; have := htl; first | (rcases ht with rfl | rfl | rfl | rfl <;> first | decide | assumption | simp) | (rcases ht with rfl | rfl | rfl <;> first | decide | assumption | simp) | (rcases ht with rfl | rfl <;> first | decide | assumption | simp) | (rw [ht]; first | decide | assumption) | (rw [ht]; simp)) (by simp)).mono ?_
 rintro e3 w3 hpost
 cases hR : adv T (some [[115, 116, 114, 117, 99, 116], nm]) with
 | none =>
   rw [hR] at hpost
   obtain ⟨rfl, hch⟩ := hpost
   have HNO := lh ((HEQ.out).trans (Xad hR _))
   have HCH := lh ((HW1.out).fell hch)
   clear hR hch
   unfold boom
   go_wp2
   refine ⟨rfl, ?_⟩
   rw [HNO.out]
   exact ⟨rfl, HCH.out⟩
 | some T3 =>
   rw [hR] at hpost
   obtain ⟨rfl, u3, hwent⟩ := hpost
   have HW3 := lh ((HW1.out).trans hwent)
   have HD3 := lh ((HD1.out).went (HW1.out).1 hg1 hg2 hwent)
   have HEQ3 := lh ((HEQ.out).trans (Xae hR _))
   clear hwent hR
   go_wp2_with fail
   refine (Xil ⟨g, 5, none⟩ Ap ps.length cp _ (HD3.out).c5 ((HD3.out).frz 5)).mono ?_
   rintro e4 w4 ⟨rfl, hw4⟩
   have HW4 : Hid (Went w Bc Ba B u w4 _ T3) := lh (by rw [hw4]; exact (HW3.out).setCell _ _ hwg ((HD3.out).apart (HW3.out).1 hg1 hg2))
   have HD4 := lh (show Xar w4 g 3 p n (Xaa []) (Xaa ty) (.slice none 0 0) (.slice Ab bd.length cb) from by rw [hw4]; exact (HD3.out).s5 _)
   clear hw4
   go_wp2_with fail
   have HCP := lh (fields_q (hb.trans ((HW4.out).2.2.below hB (fun x hx => (hp.mine hx).1))) (Nat.le_trans hB (HW4.out).2.2.size) (HW4.out).1 ps HPS.out HSM.out)
   unfold penV at HCP
   refine (HCP.out).mono ?_
   rintro e5 w5 hpost
   cases hR : adv T3 (Xlq ps) with
   | none =>
     rw [hR] at hpost
     obtain ⟨rfl, hch⟩ := hpost
     have HNO := lh ((HEQ3.out).trans (Xad hR _))
     have HCH := lh ((HW4.out).fell hch)
     clear hR hch
     unfold boom
     go_wp2
     refine ⟨rfl, ?_⟩
     rw [HNO.out]
     exact ⟨rfl, HCH.out⟩
   | some T5 =>
     rw [hR] at hpost
     obtain ⟨rfl, u5, hwent⟩ := hpost
     have HW5 := lh ((HW4.out).trans hwent)
     have HD5 := lh ((HD4.out).went (HW4.out).1 hg1 hg2 hwent)
     have HEQ5 := lh ((HEQ3.out).trans (Xae hR _))
     clear hwent hR
     have c2 := (HD5.out).c2
     have c4 := (HD5.out).c4
     have c5 := (HD5.out).c5
     have c6 := (HD5.out).c6
     have hz0 : (Xaa []).toList = [] := Xaf []
     obtain ⟨nb, hnb⟩ : ∃ m, m = bd.length := ⟨_, rfl⟩
     rw [← hnb] at c6
     by_cases hn : n = 0
     case neg =>
      have HNO := lh ((HEQ5.out).trans (show adv T5 (need _ (some [])) = none from by rw [Xag (fun h => hn h.1)]; rfl))
      have hs1 : (n == 0) = false := by rw [beq_eq_false_iff_ne]; exact hn
      clear hnb hn
      go_wp2_with fail
      refine (Xah _).mono ?_
      rintro e9 w9 ⟨rfl, rfl⟩
      unfold boom
      go_wp2
      refine ⟨rfl, ?_⟩
      rw [HNO.out]
      exact ⟨rfl, (HW5.out).2.2⟩
     by_cases ht : ty = []
     case neg =>
      have HNO := lh ((HEQ5.out).trans (show adv T5 (need _ (some [])) = none from by rw [Xag (fun h => ht h.2.1)]; rfl))
      subst hn
      have hs1 : ¬ (Xaa ty).toList = [] := by rw [Xaf]; exact ht
      clear hnb ht
      go_wp2_with fail
      refine (Xah _).mono ?_
      rintro e9 w9 ⟨rfl, rfl⟩
      unfold boom
      go_wp2
      refine ⟨rfl, ?_⟩
      rw [HNO.out]
      exact ⟨rfl, (HW5.out).2.2⟩
     by_cases hbl0 : bd.length = 0
     case neg =>
      have HNO := lh ((HEQ5.out).trans (show adv T5 (need _ (some [])) = none from by rw [Xag (fun h => hbl0 h.2.2)]; rfl))
      subst hn
      subst ht
      have hl1 : (nb == 0) = false := by rw [beq_eq_false_iff_ne]; omega
      have hl2 : ((nb : Int) == 0) = false := by rw [beq_eq_false_iff_ne]; omega
      clear hnb hbl0
      go_wp2_with fail
      refine (Xah _).mono ?_
      rintro e9 w9 ⟨rfl, rfl⟩
      unfold boom
      go_wp2
      refine ⟨rfl, ?_⟩
      rw [HNO.out]
      exact ⟨rfl, (HW5.out).2.2⟩
     have HFIN := lh ((HEQ5.out).trans (show adv T5 (need _ (some [])) = some T5 from by rw [Xai ⟨hn, ht, hbl0⟩]; exact Xbe (HW5.out).1.fit))
     subst hn
     subst ht
     obtain rfl : nb = 0 := by omega
     clear hnb hbl0
     go_wp2_with fail
     refine (Xaj _).mono ?_
     rintro e9 w9 ⟨rfl, rfl⟩
     go_wp2
     go_end0
     rw [HFIN.out]
     exact ⟨rfl, _, HW5.out⟩
set_option maxRecDepth 100000 in
set_option maxHeartbeats 4000000 in
theorem decl_7_a {w0 w : World} {Bc Ba B : Nat} {u : Value} {T : List (List UInt8)} {p n : Int} {nm ty : List UInt8} {ps : List Pr} {bd : List Sm} {vp vb : Value} (htab : Tab B w0) (hb : Below B w0 w) (hB : B ≤ w.heap.size) (hp : Xap w Bc Ba B u T) (hnl : nm.length ≤ 40000) (htl : ty.length ≤ 40000)
  (hps : Xcl w0 (· < B) ps vp) (hsm : ∀ p ∈ ps, p.name.length ≤ 40000 ∧ p.type.length ≤ 40000) (hbd : Xao w0 B bd vb) (hbs : ∃ A c, vb = .slice A bd.length c) (hq : Xam nm = true) (hty : ¬ ty = []) :
  Calls Tryz.prog 29 #[penV Bc Ba, .agg #[.int .i64 7, .int .i64 p, .int .i64 n, .string (Xaa nm), .string (Xaa ty), vp, vb]] w (Xal w Bc Ba B u (adv T (penD ⟨7, p, n, nm, ty, ps, bd⟩))) := by
 obtain ⟨Ap, cp, hvp, _, _, _⟩ := id hps
 subst hvp
 obtain ⟨Ab, cb, hvb⟩ := hbs
 subst hvb
 obtain ⟨X, hX⟩ : ∃ X : World, X = w.alloc (.cells #[.int .i64 7, .int .i64 p, .int .i64 n, .string (Xaa nm), .string (Xaa ty), .slice Ap ps.length cp, .slice Ab bd.length cb] 41) := ⟨_, rfl⟩
 obtain ⟨g, hg⟩ : ∃ g, g = w.heap.size := ⟨_, rfl⟩
 have hd : Xar X g 7 p n (Xaa nm) (Xaa ty) (.slice Ap ps.length cp) (.slice Ab bd.length cb) := by rw [hX, hg]; exact Xar.new _ _ _ _ _ _ _ _
 have hw : Went w Bc Ba B u X u T := by rw [hX]; exact (Went.refl hp).alloc _
 have hg1 : Bc < g := by rw [hg]; exact Xab hp.cnt
 have hg2 : Ba < g := by rw [hg]; exact Xab hp.buf
 have hwg : w.heap.size ≤ g := by rw [hg]; exact Nat.le_refl _
 have hsz : (Xaa nm).size ≤ 40000 := by rw [Lib.size_eq, Xak]; exact hnl
 have HX := lh hX
 have HG := lh hg
 have HD := lh hd
 have HW := lh hw
 have HPS := lh hps
 have HSM := lh hsm
 clear hX hg hd hw hps hsm
 have HEQ := lh (congrArg (adv T) ((penD_7 p n nm ty ps bd hq).trans (by rw [if_neg hty])))
 have HTY := lh hty
 clear hty
 have HTN := lh (Xba ⟨g, 3, none⟩ (Xaa nm) X HD.out.c3 (HD.out.frz 3) hsz hq)
 unfold penV
 go_enter Tryz.func29, Tryz.ntmps29
 go_wp2_with fail
 rw [← HX.out, ← HG.out]
 refine HTN.out.mono ?_
 rintro e1 w1 ⟨rfl, wm, hbl, hw1⟩
 have HW1 : Hid (Went w Bc Ba B u w1 u T) := lh (by rw [hw1]; exact (HW.out.below hbl).setCell _ _ hwg ((HD.out).apart (HW.out).1 hg1 hg2))
 have HD1 := lh (show Xar w1 g 7 p n (Xaa []) (Xaa ty) (.slice Ap ps.length cp) (.slice Ab bd.length cb) from by rw [hw1]; exact (HD.out.below hbl HD.out.lt).s3 _)
 clear hbl hw1
 have a2 := (HD1.out).c0
 go_wp2_with fail
 refine (Xaq (Went.refl (HW1.out).1) (Nat.le_trans hB (HW1.out).2.2.size) [[102, 117, 110, 99], nm] (by intro t ht; simp at ht; have := hnl; have := htl; first | (rcases ht with rfl | rfl | rfl | rfl <;> first | decide | assumption | simp) | (rcases ht with rfl | rfl | rfl <;> first | decide | assumption | simp) | (rcases ht with rfl | rfl <;> first | decide | assumption | simp) | (rw [ht]; first | decide | assumption) | (rw [ht]; simp)) (by simp)).mono ?_
 rintro e3 w3 hpost
 cases hR : adv T (some [[102, 117, 110, 99], nm]) with
 | none =>
   rw [hR] at hpost
   obtain ⟨rfl, hch⟩ := hpost
   have HNO := lh ((HEQ.out).trans (Xad hR _))
   have HCH := lh ((HW1.out).fell hch)
   clear hR hch
   unfold boom
   go_wp2
   refine ⟨rfl, ?_⟩
   rw [HNO.out]
   exact ⟨rfl, HCH.out⟩
 | some T3 =>
   rw [hR] at hpost
   obtain ⟨rfl, u3, hwent⟩ := hpost
   have HW3 := lh ((HW1.out).trans hwent)
   have HD3 := lh ((HD1.out).went (HW1.out).1 hg1 hg2 hwent)
   have HEQ3 := lh ((HEQ.out).trans (Xae hR _))
   clear hwent hR
   go_wp2_with fail
   refine (Xil ⟨g, 5, none⟩ Ap ps.length cp _ (HD3.out).c5 ((HD3.out).frz 5)).mono ?_
   rintro e4 w4 ⟨rfl, hw4⟩
   have HW4 : Hid (Went w Bc Ba B u w4 _ T3) := lh (by rw [hw4]; exact (HW3.out).setCell _ _ hwg ((HD3.out).apart (HW3.out).1 hg1 hg2))
   have HD4 := lh (show Xar w4 g 7 p n (Xaa []) (Xaa ty) (.slice none 0 0) (.slice Ab bd.length cb) from by rw [hw4]; exact (HD3.out).s5 _)
   clear hw4
   go_wp2_with fail
   have HCP := lh (Xqq (hb.trans ((HW4.out).2.2.below hB (fun x hx => (hp.mine hx).1))) (Nat.le_trans hB (HW4.out).2.2.size) (HW4.out).1 ps HPS.out HSM.out)
   unfold penV at HCP
   refine (HCP.out).mono ?_
   rintro e5 w5 hpost
   cases hR : adv T3 (Xjm ps) with
   | none =>
     rw [hR] at hpost
     obtain ⟨rfl, hch⟩ := hpost
     have HNO := lh ((HEQ3.out).trans (Xad hR _))
     have HCH := lh ((HW4.out).fell hch)
     clear hR hch
     unfold boom
     go_wp2
     refine ⟨rfl, ?_⟩
     rw [HNO.out]
     exact ⟨rfl, HCH.out⟩
   | some T5 =>
     rw [hR] at hpost
     obtain ⟨rfl, u5, hwent⟩ := hpost
     have HW5 := lh ((HW4.out).trans hwent)
     have HD5 := lh ((HD4.out).went (HW4.out).1 hg1 hg2 hwent)
     have HEQ5 := lh ((HEQ3.out).trans (Xae hR _))
     clear hwent hR
     have hty := HTY.out
     have hs1 : ¬ (Xaa ty).toList = [] := by rw [Xaf]; exact hty
     have hs2 : (!(Xaa ty).toList.isEmpty) = true := by rw [Xaf]; cases ty with
      | nil => exact absurd rfl hty
      | cons a r => rfl
     have a6 := (HD5.out).c4
     go_wp2_with fail
     refine (Xen ⟨g, 4, none⟩ (Xaa ty) _ (HD5.out).c4 ((HD5.out).frz 4)).mono ?_
     rintro e7 w7 ⟨rfl, hw7⟩
     have HW7 : Hid (Went w Bc Ba B u w7 _ T5) := lh (by rw [hw7]; exact (HW5.out).setCell _ _ hwg ((HD5.out).apart (HW5.out).1 hg1 hg2))
     have HD7 := lh (show Xar w7 g 7 p n (Xaa []) (Xaa []) (.slice none 0 0) (.slice Ab bd.length cb) from by rw [hw7]; exact (HD5.out).s4 _)
     clear hw7
     go_wp2_with fail
     refine (Xgj (HW7.out).1 (Nat.le_trans hB (HW7.out).2.2.size) ty htl).mono ?_
     rintro e8 w8 hpost
     cases hR : adv T5 (tyT ty) with
     | none =>
       rw [hR] at hpost
       obtain ⟨rfl, hch⟩ := hpost
       have HNO := lh ((HEQ5.out).trans (Xad hR _))
       have HCH := lh ((HW7.out).fell hch)
       clear hR hch
       unfold boom
       go_wp2
       refine ⟨rfl, ?_⟩
       rw [HNO.out]
       exact ⟨rfl, HCH.out⟩
     | some T8 =>
       rw [hR] at hpost
       obtain ⟨rfl, u8, hwent⟩ := hpost
       have HW8 := lh ((HW7.out).trans hwent)
       have HD8 := lh ((HD7.out).went (HW7.out).1 hg1 hg2 hwent)
       have HEQ8 := lh ((HEQ5.out).trans (Xae hR _))
       clear hwent hR
       go_wp2_with fail
       refine (Xfi ⟨g, 6, none⟩ Ab bd.length cb _ (HD8.out).c6 ((HD8.out).frz 6)).mono ?_
       rintro e9 w9 ⟨rfl, hw9⟩
       have HW9 : Hid (Went w Bc Ba B u w9 _ T8) := lh (by rw [hw9]; exact (HW8.out).setCell _ _ hwg ((HD8.out).apart (HW8.out).1 hg1 hg2))
       have HD9 := lh (show Xar w9 g 7 p n (Xaa []) (Xaa []) (.slice none 0 0) (.slice none 0 0) from by rw [hw9]; exact (HD8.out).s6 _)
       clear hw9
       go_wp2_with fail
       have HCB := lh (hbd w9 Bc Ba _ _ 1 (hb.trans ((HW9.out).2.2.below hB (fun x hx => (hp.mine hx).1))) (Nat.le_trans hB (HW9.out).2.2.size) (HW9.out).1 (by omega) (by omega))
       unfold penV at HCB
       refine (HCB.out).mono ?_
       rintro e10 w10 hpost
       cases hR : adv T8 (penB bd 1) with
       | none =>
         rw [hR] at hpost
         obtain ⟨rfl, hch⟩ := hpost
         have HNO := lh ((HEQ8.out).trans (Xad hR _))
         have HCH := lh ((HW9.out).fell hch)
         clear hR hch
         unfold boom
         go_wp2
         refine ⟨rfl, ?_⟩
         rw [HNO.out]
         exact ⟨rfl, HCH.out⟩
       | some T10 =>
         rw [hR] at hpost
         obtain ⟨rfl, u10, hwent⟩ := hpost
         have HW10 := lh ((HW9.out).trans hwent)
         have HD10 := lh ((HD9.out).went (HW9.out).1 hg1 hg2 hwent)
         have HEQ10 := lh ((HEQ8.out).trans (Xae hR _))
         clear hwent hR
         have c2 := (HD10.out).c2
         have c4 := (HD10.out).c4
         have c5 := (HD10.out).c5
         have c6 := (HD10.out).c6
         have hz0 : (Xaa []).toList = [] := Xaf []
         by_cases hn : n = 0
         case neg =>
          have HNO := lh ((HEQ10.out).trans (show adv T10 (need _ (some [])) = none from by rw [Xag (fun h => hn h)]; rfl))
          have hs1 : (n == 0) = false := by rw [beq_eq_false_iff_ne]; exact hn
          clear hn
          go_wp2_with fail
          refine (Xah _).mono ?_
          rintro e9 w9 ⟨rfl, rfl⟩
          unfold boom
          go_wp2
          refine ⟨rfl, ?_⟩
          rw [HNO.out]
          exact ⟨rfl, (HW10.out).2.2⟩
         have HFIN := lh ((HEQ10.out).trans (show adv T10 (need _ (some [])) = some T10 from by rw [Xai hn]; exact Xbe (HW10.out).1.fit))
         subst hn
         go_wp2_with fail
         refine (Xaj _).mono ?_
         rintro e9 w9 ⟨rfl, rfl⟩
         go_wp2
         go_end0
         rw [HFIN.out]
         exact ⟨rfl, _, HW10.out⟩
set_option maxRecDepth 100000 in
set_option maxHeartbeats 4000000 in
theorem decl_7_b {w0 w : World} {Bc Ba B : Nat} {u : Value} {T : List (List UInt8)} {p n : Int} {nm ty : List UInt8} {ps : List Pr} {bd : List Sm} {vp vb : Value} (htab : Tab B w0) (hb : Below B w0 w) (hB : B ≤ w.heap.size) (hp : Xap w Bc Ba B u T) (hnl : nm.length ≤ 40000) (htl : ty.length ≤ 40000)
  (hps : Xcl w0 (· < B) ps vp) (hsm : ∀ p ∈ ps, p.name.length ≤ 40000 ∧ p.type.length ≤ 40000) (hbd : Xao w0 B bd vb) (hbs : ∃ A c, vb = .slice A bd.length c) (hq : Xam nm = true) (hty : ty = []) :
  Calls Tryz.prog 29 #[penV Bc Ba, .agg #[.int .i64 7, .int .i64 p, .int .i64 n, .string (Xaa nm), .string (Xaa ty), vp, vb]] w (Xal w Bc Ba B u (adv T (penD ⟨7, p, n, nm, ty, ps, bd⟩))) := by
 obtain ⟨Ap, cp, hvp, _, _, _⟩ := id hps
 subst hvp
 obtain ⟨Ab, cb, hvb⟩ := hbs
 subst hvb
 obtain ⟨X, hX⟩ : ∃ X : World, X = w.alloc (.cells #[.int .i64 7, .int .i64 p, .int .i64 n, .string (Xaa nm), .string (Xaa ty), .slice Ap ps.length cp, .slice Ab bd.length cb] 41) := ⟨_, rfl⟩
 obtain ⟨g, hg⟩ : ∃ g, g = w.heap.size := ⟨_, rfl⟩
 have hd : Xar X g 7 p n (Xaa nm) (Xaa ty) (.slice Ap ps.length cp) (.slice Ab bd.length cb) := by rw [hX, hg]; exact Xar.new _ _ _ _ _ _ _ _
 have hw : Went w Bc Ba B u X u T := by rw [hX]; exact (Went.refl hp).alloc _
 have hg1 : Bc < g := by rw [hg]; exact Xab hp.cnt
 have hg2 : Ba < g := by rw [hg]; exact Xab hp.buf
 have hwg : w.heap.size ≤ g := by rw [hg]; exact Nat.le_refl _
 have hsz : (Xaa nm).size ≤ 40000 := by rw [Lib.size_eq, Xak]; exact hnl
 have HX := lh hX
 have HG := lh hg
 have HD := lh hd
 have HW := lh hw
 have HPS := lh hps
 have HSM := lh hsm
 clear hX hg hd hw hps hsm
 have HEQ := lh (congrArg (adv T) ((penD_7 p n nm ty ps bd hq).trans (by rw [if_pos hty, Xbh])))
 have HTY := lh hty
 clear hty
 have HTN := lh (Xba ⟨g, 3, none⟩ (Xaa nm) X HD.out.c3 (HD.out.frz 3) hsz hq)
 unfold penV
 go_enter Tryz.func29, Tryz.ntmps29
 go_wp2_with fail
 rw [← HX.out, ← HG.out]
 refine HTN.out.mono ?_
 rintro e1 w1 ⟨rfl, wm, hbl, hw1⟩
 have HW1 : Hid (Went w Bc Ba B u w1 u T) := lh (by rw [hw1]; exact (HW.out.below hbl).setCell _ _ hwg ((HD.out).apart (HW.out).1 hg1 hg2))
 have HD1 := lh (show Xar w1 g 7 p n (Xaa []) (Xaa ty) (.slice Ap ps.length cp) (.slice Ab bd.length cb) from by rw [hw1]; exact (HD.out.below hbl HD.out.lt).s3 _)
 clear hbl hw1
 have a2 := (HD1.out).c0
 go_wp2_with fail
 refine (Xaq (Went.refl (HW1.out).1) (Nat.le_trans hB (HW1.out).2.2.size) [[102, 117, 110, 99], nm] (by intro t ht; simp at ht; have := hnl; have := htl; first | (rcases ht with rfl | rfl | rfl | rfl <;> first | decide | assumption | simp) | (rcases ht with rfl | rfl | rfl <;> first | decide | assumption | simp) | (rcases ht with rfl | rfl <;> first | decide | assumption | simp) | (rw [ht]; first | decide | assumption) | (rw [ht]; simp)) (by simp)).mono ?_
 rintro e3 w3 hpost
 cases hR : adv T (some [[102, 117, 110, 99], nm]) with
 | none =>
   rw [hR] at hpost
   obtain ⟨rfl, hch⟩ := hpost
   have HNO := lh ((HEQ.out).trans (Xad hR _))
   have HCH := lh ((HW1.out).fell hch)
   clear hR hch
   unfold boom
   go_wp2
   refine ⟨rfl, ?_⟩
   rw [HNO.out]
   exact ⟨rfl, HCH.out⟩
 | some T3 =>
   rw [hR] at hpost
   obtain ⟨rfl, u3, hwent⟩ := hpost
   have HW3 := lh ((HW1.out).trans hwent)
   have HD3 := lh ((HD1.out).went (HW1.out).1 hg1 hg2 hwent)
   have HEQ3 := lh ((HEQ.out).trans (Xae hR _))
   clear hwent hR
   go_wp2_with fail
   refine (Xil ⟨g, 5, none⟩ Ap ps.length cp _ (HD3.out).c5 ((HD3.out).frz 5)).mono ?_
   rintro e4 w4 ⟨rfl, hw4⟩
   have HW4 : Hid (Went w Bc Ba B u w4 _ T3) := lh (by rw [hw4]; exact (HW3.out).setCell _ _ hwg ((HD3.out).apart (HW3.out).1 hg1 hg2))
   have HD4 := lh (show Xar w4 g 7 p n (Xaa []) (Xaa ty) (.slice none 0 0) (.slice Ab bd.length cb) from by rw [hw4]; exact (HD3.out).s5 _)
   clear hw4
   go_wp2_with fail
   have HCP := lh (Xqq (hb.trans ((HW4.out).2.2.below hB (fun x hx => (hp.mine hx).1))) (Nat.le_trans hB (HW4.out).2.2.size) (HW4.out).1 ps HPS.out HSM.out)
   unfold penV at HCP
   refine (HCP.out).mono ?_
   rintro e5 w5 hpost
   cases hR : adv T3 (Xjm ps) with
   | none =>
     rw [hR] at hpost
     obtain ⟨rfl, hch⟩ := hpost
     have HNO := lh ((HEQ3.out).trans (Xad hR _))
     have HCH := lh ((HW4.out).fell hch)
     clear hR hch
     unfold boom
     go_wp2
     refine ⟨rfl, ?_⟩
     rw [HNO.out]
     exact ⟨rfl, HCH.out⟩
   | some T5 =>
     rw [hR] at hpost
     obtain ⟨rfl, u5, hwent⟩ := hpost
     have HW5 := lh ((HW4.out).trans hwent)
     have HD5 := lh ((HD4.out).went (HW4.out).1 hg1 hg2 hwent)
     have HEQ5 := lh ((HEQ3.out).trans (Xae hR _))
     clear hwent hR
     have hty := HTY.out
     subst hty
     have hz0 : (Xaa []).toList = [] := Xaf []
     have a6 := (HD5.out).c4
     go_wp2_with fail
     refine (Xfi ⟨g, 6, none⟩ Ab bd.length cb _ (HD5.out).c6 ((HD5.out).frz 6)).mono ?_
     rintro e7 w7 ⟨rfl, hw7⟩
     have HW7 : Hid (Went w Bc Ba B u w7 _ T5) := lh (by rw [hw7]; exact (HW5.out).setCell _ _ hwg ((HD5.out).apart (HW5.out).1 hg1 hg2))
     have HD7 := lh (show Xar w7 g 7 p n (Xaa []) (Xaa []) (.slice none 0 0) (.slice none 0 0) from by rw [hw7]; exact (HD5.out).s6 _)
     clear hw7
     go_wp2_with fail
     have HCB := lh (hbd w7 Bc Ba _ _ 1 (hb.trans ((HW7.out).2.2.below hB (fun x hx => (hp.mine hx).1))) (Nat.le_trans hB (HW7.out).2.2.size) (HW7.out).1 (by omega) (by omega))
     unfold penV at HCB
     refine (HCB.out).mono ?_
     rintro e8 w8 hpost
     cases hR : adv T5 (penB bd 1) with
     | none =>
       rw [hR] at hpost
       obtain ⟨rfl, hch⟩ := hpost
       have HNO := lh ((HEQ5.out).trans (Xad hR _))
       have HCH := lh ((HW7.out).fell hch)
       clear hR hch
       unfold boom
       go_wp2
       refine ⟨rfl, ?_⟩
       rw [HNO.out]
       exact ⟨rfl, HCH.out⟩
     | some T8 =>
       rw [hR] at hpost
       obtain ⟨rfl, u8, hwent⟩ := hpost
       have HW8 := lh ((HW7.out).trans hwent)
       have HD8 := lh ((HD7.out).went (HW7.out).1 hg1 hg2 hwent)
       have HEQ8 := lh ((HEQ5.out).trans (Xae hR _))
       clear hwent hR
       have c2 := (HD8.out).c2
       have c4 := (HD8.out).c4
       have c5 := (HD8.out).c5
       have c6 := (HD8.out).c6
       have hz0 : (Xaa []).toList = [] := Xaf []
       by_cases hn : n = 0
       case neg =>
        have HNO := lh ((HEQ8.out).trans (show adv T8 (need _ (some [])) = none from by rw [Xag (fun h => hn h)]; rfl))
        have hs1 : (n == 0) = false := by rw [beq_eq_false_iff_ne]; exact hn
        clear hn
        go_wp2_with fail
        refine (Xah _).mono ?_
        rintro e9 w9 ⟨rfl, rfl⟩
        unfold boom
        go_wp2
        refine ⟨rfl, ?_⟩
        rw [HNO.out]
        exact ⟨rfl, (HW8.out).2.2⟩
       have HFIN := lh ((HEQ8.out).trans (show adv T8 (need _ (some [])) = some T8 from by rw [Xai hn]; exact Xbe (HW8.out).1.fit))
       subst hn
       go_wp2_with fail
       refine (Xaj _).mono ?_
       rintro e9 w9 ⟨rfl, rfl⟩
       go_wp2
       go_end0
       rw [HFIN.out]
       exact ⟨rfl, _, HW8.out⟩
end Go.Proofs.YtodociiaobjfgaaGreatDoor
