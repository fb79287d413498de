/- Wj -/
import Derived.Test.YtodociiaobjfgaaGreatDoorVb9
set_option linter.unusedVariables false
set_option linter.unusedSimpArgs false
namespace Go.Proofs.YtodociiaobjfgaaGreatDoor
open Go.RowKit
set_option maxRecDepth 100000 in
set_option maxHeartbeats 4000000 in
theorem stmt_3_a {w0 w : World} {Bc Ba B : Nat} {u : Value} {T : List (List UInt8)} {p : Int} {nm ty : List UInt8} {V bv ev : Value} {ex : List Ex} {bd el : List Sm} {d : Int} (hb : Below B w0 w) (hB : B ≤ w.heap.size) (hp : Xap w Bc Ba B u T) (hd0 : 0 ≤ d) (hd : d ≤ 24) (hr : Xbd w0 B ex V) (hnl : nm.length ≤ 40000) (htl : ty.length ≤ 40000)
  (hbd : Xao w0 B bd bv) (hel : Xao w0 B el ev) (hbs : ∃ A c, bv = .slice A bd.length c) (hes : ∃ A c, ev = .slice A el.length c) (hq : el.length = 0) :
  Calls Tryz.prog 58 #[penV Bc Ba, .agg #[.int .i64 3, .int .i64 p, .string (Xaa nm), .string (Xaa ty), V, bv, ev], .int .i64 d] w (Xal w Bc Ba B u (adv T (penS (.mk 3 p nm ty ex bd el) d))) := by
 have hq1 : ¬ 0 < el.length := by omega
 have hq2 : (el.length == 0) = true := by rw [beq_iff_eq]; exact hq
 have hq3 : ((el.length : Int) == 0) = true := by rw [beq_iff_eq]; omega
 have hmf : ∀ (fn : Fn) (first cap : Array Value) (w : World), (Instr.makeFunc fn first cap).run Tryz.prog w = .ok (.func fn first cap) w := fun _ _ _ _ => rfl
 obtain ⟨A, c, hrv, _, _, _⟩ := id hr
 subst hrv
 obtain ⟨Ab, cb, hbv⟩ := hbs
 subst hbv
 obtain ⟨Ae, ce, hev⟩ := hes
 subst hev
 obtain ⟨X, hX⟩ : ∃ X : World, X = ((w.alloc (.cells #[penV Bc Ba] 49)).alloc (.cells #[.int .i64 3, .int .i64 p, .string (Xaa nm), .string (Xaa ty), .slice A ex.length c, .slice Ab bd.length cb, .slice Ae el.length ce] 38)).alloc (.cells #[.int .i64 d] 3) := ⟨_, rfl⟩
 obtain ⟨g, hg⟩ : ∃ g, g = w.heap.size := ⟨_, rfl⟩
 obtain ⟨hf, hsz⟩ := Xct hX hg
 have hw : Went w Bc Ba B u X u T := by rw [hX]; exact (((Went.refl hp).alloc _).alloc _).alloc _
 have e0 := hf.sm.c0
 have hg1 : Bc < g := by rw [hg]; exact Xab hp.cnt
 have hg2 : Ba < g := by rw [hg]; exact Xab hp.buf
 have hBg : B ≤ g := by rw [hg]; exact hB
 have hwg : w.heap.size ≤ g := by rw [hg]; exact Nat.le_refl _
 have hd50 : d ≤ 50 := by omega
 have HEQ := lh (congrArg (adv T) ((penS_3 p nm ty ex bd el d).trans (by rw [if_pos hq, Xbh])))
 have HXS : Hid (g + 1 + 1 + 1 = X.heap.size) := lh (by rw [hsz])
 have HX := lh hX
 have HG := lh hg
 have HF := lh hf
 have HW := lh hw
 have HR := lh hr
 clear hX hg hf hw hsz hr
 clear hq
 unfold penV at HX ⊢
 go_enter Tryz.func58, Tryz.ntmps58
 have pc1 := (HF.out).pc
 have dc1 := (HF.out).dc
 go_wp2_with fail
 rw [← HX.out, ← HG.out, HXS.out]
 refine (Xaq (Went.refl (HW.out).1) (Nat.le_trans hB (HW.out).2.2.size) [Xbf 3] (by intro t ht; simp at ht; have := hnl; have := htl; first | (rcases ht with rfl | rfl | rfl | rfl <;> first | decide | assumption | simp) | (rcases ht with rfl | rfl | rfl <;> first | decide | assumption | simp) | (rcases ht with rfl | rfl <;> first | decide | assumption | simp) | (rw [ht]; first | decide | assumption) | (rw [ht]; simp)) (by simp)).mono ?_
 rintro e2 w2 hpost
 cases hR : adv T (some [Xbf 3]) with
 | none =>
   rw [hR] at hpost
   obtain ⟨rfl, hch⟩ := hpost
   have HNO := lh ((HEQ.out).trans (Xad hR _))
   have HCH := lh ((HW.out).fell hch)
   clear hR hch
   unfold boom
   go_wp2
   refine ⟨rfl, ?_⟩
   rw [HNO.out]
   exact ⟨rfl, HCH.out⟩
 | some T2 =>
   rw [hR] at hpost
   obtain ⟨rfl, u2, hwent⟩ := hpost
   have HW2 := lh ((HW.out).trans hwent)
   have HF2 := lh ((HF.out).went (HW.out).1 hg1 hg2 hwent)
   have HEQ2 := lh ((HEQ.out).trans (Xae hR _))
   clear hwent hR
   have pc3 := (HF2.out).pc
   have dc3 := (HF2.out).dc
   go_wp2_with fail
   refine (Xmh (hb.trans ((HW2.out).2.2.below hB (fun x hx => (hp.mine hx).1))) hBg hg1 hg2 (HW2.out).1 (HF2.out) (HR.out) hd0 hd50).mono ?_
   rintro e4 w4 hpost
   cases hR : adv T2 (argC ex d []) with
   | none =>
     rw [hR] at hpost
     obtain ⟨rfl, hch⟩ := hpost
     have HNO := lh ((HEQ2.out).trans (Xad hR _))
     have HCH := lh ((HW2.out).fell_fr hwg hch)
     clear hR hch
     unfold boom
     go_wp2
     refine ⟨rfl, ?_⟩
     rw [HNO.out]
     exact ⟨rfl, HCH.out⟩
   | some T4 =>
     rw [hR] at hpost
     obtain ⟨rfl, u4, V4, hpA, hown, hch, hfr, hrd⟩ := hpost
     obtain ⟨A4, c4, hV, _, _, _⟩ := id hrd
     subst hV
     have HW4 := lh ((HW2.out).fr hwg hpA hown hch)
     have HF4 := lh hfr
     have HR4 := lh hrd
     have HEQ4 := lh ((HEQ2.out).trans (Xae hR _))
     clear hpA hown hch hfr hrd hR
     have pc5 := (HF4.out).pc
     have dc5 := (HF4.out).dc
     go_wp2_with fail
     refine (Xmg (hb.trans ((HW4.out).2.2.below hB (fun x hx => (hp.mine hx).1))) hBg hg1 hg2 (HW4.out).1 (HF4.out) hbd hd0 hd50).mono ?_
     rintro e6 w6 hpost
     cases hR : adv T4 (penB bd (d + 1)) with
     | none =>
       rw [hR] at hpost
       obtain ⟨rfl, hch⟩ := hpost
       have HNO := lh ((HEQ4.out).trans (Xad hR _))
       have HCH := lh ((HW4.out).fell_fr hwg hch)
       clear hR hch
       unfold boom
       go_wp2
       refine ⟨rfl, ?_⟩
       rw [HNO.out]
       exact ⟨rfl, HCH.out⟩
     | some T6 =>
       rw [hR] at hpost
       obtain ⟨rfl, u6, hpA, hown, hch, hfr⟩ := hpost
       have HW6 := lh ((HW4.out).fr hwg hpA hown hch)
       have HF6 := lh hfr
       have HEQ6 := lh ((HEQ4.out).trans (Xae hR _))
       clear hpA hown hch hfr hR
       have k6 := (HF6.out).sm.c6
       have pc7 := (HF6.out).pc
       have dc7 := (HF6.out).dc
       have c2 := (HF6.out).sm.c2
       have c3 := (HF6.out).sm.c3
       have c4 := (HF6.out).sm.c4
       have c5 := (HF6.out).sm.c5
       have c6 := (HF6.out).sm.c6
       have hz0 : (Xaa []).toList = [] := Xaf []
       obtain ⟨m, hm⟩ : ∃ m, m = (ex.tail).length := ⟨_, rfl⟩
       rw [← hm] at c4
       by_cases hn : nm = []
       case neg =>
        have HNO := lh ((HEQ6.out).trans (show adv T6 (need _ (some [])) = none from by rw [Xag (fun h => hn h.1)]; rfl))
        have hs1 : ¬ (Xaa nm).toList = [] := by rw [Xaf]; exact hn
        clear hm hn
        go_wp2_with fail
        refine (Xah _).mono ?_
        rintro e9 w9 ⟨rfl, rfl⟩
        unfold boom
        go_wp2
        refine ⟨rfl, ?_⟩
        rw [HNO.out]
        exact ⟨rfl, (HW6.out).2.2⟩
       by_cases ht : ty = []
       case neg =>
        have HNO := lh ((HEQ6.out).trans (show adv T6 (need _ (some [])) = none from by rw [Xag (fun h => ht h.2.1)]; rfl))
        subst hn
        have hs1 : ¬ (Xaa ty).toList = [] := by rw [Xaf]; exact ht
        clear hm ht
        go_wp2_with fail
        refine (Xah _).mono ?_
        rintro e9 w9 ⟨rfl, rfl⟩
        unfold boom
        go_wp2
        refine ⟨rfl, ?_⟩
        rw [HNO.out]
        exact ⟨rfl, (HW6.out).2.2⟩
       by_cases hx : (ex.tail).length = 0
       case neg =>
        have HNO := lh ((HEQ6.out).trans (show adv T6 (need _ (some [])) = none from by rw [Xag (fun h => hx h.2.2)]; rfl))
        subst hn
        subst ht
        have hl1 : (m == 0) = false := by rw [beq_eq_false_iff_ne]; omega
        have hl2 : ((m : Int) == 0) = false := by rw [beq_eq_false_iff_ne]; omega
        clear hm hx
        go_wp2_with fail
        refine (Xah _).mono ?_
        rintro e9 w9 ⟨rfl, rfl⟩
        unfold boom
        go_wp2
        refine ⟨rfl, ?_⟩
        rw [HNO.out]
        exact ⟨rfl, (HW6.out).2.2⟩
       have HFIN := lh ((HEQ6.out).trans (show adv T6 (need _ (some [])) = some T6 from by rw [Xai ⟨hn, ht, hx⟩]; exact Xbe (HW6.out).1.fit))
       subst hn
       subst ht
       obtain rfl : m = 0 := by omega
       clear hm hx
       go_wp2_with fail
       refine (Xaj _).mono ?_
       rintro e9 w9 ⟨rfl, rfl⟩
       go_wp2
       go_end0
       rw [HFIN.out]
       exact ⟨rfl, _, HW6.out⟩
set_option maxRecDepth 100000 in
set_option maxHeartbeats 4000000 in
theorem stmt_3_b {w0 w : World} {Bc Ba B : Nat} {u : Value} {T : List (List UInt8)} {p : Int} {nm ty : List UInt8} {V bv ev : Value} {ex : List Ex} {bd el : List Sm} {d : Int} (hb : Below B w0 w) (hB : B ≤ w.heap.size) (hp : Xap w Bc Ba B u T) (hd0 : 0 ≤ d) (hd : d ≤ 24) (hr : Xbd w0 B ex V) (hnl : nm.length ≤ 40000) (htl : ty.length ≤ 40000)
  (hbd : Xao w0 B bd bv) (hel : Xao w0 B el ev) (hbs : ∃ A c, bv = .slice A bd.length c) (hes : ∃ A c, ev = .slice A el.length c) (hq : ¬ el.length = 0) :
  Calls Tryz.prog 58 #[penV Bc Ba, .agg #[.int .i64 3, .int .i64 p, .string (Xaa nm), .string (Xaa ty), V, bv, ev], .int .i64 d] w (Xal w Bc Ba B u (adv T (penS (.mk 3 p nm ty ex bd el) d))) := by
 have hgt : 0 < el.length := by omega
 have hmf : ∀ (fn : Fn) (first cap : Array Value) (w : World), (Instr.makeFunc fn first cap).run Tryz.prog w = .ok (.func fn first cap) w := fun _ _ _ _ => rfl
 obtain ⟨A, c, hrv, _, _, _⟩ := id hr
 subst hrv
 obtain ⟨Ab, cb, hbv⟩ := hbs
 subst hbv
 obtain ⟨Ae, ce, hev⟩ := hes
 subst hev
 obtain ⟨X, hX⟩ : ∃ X : World, X = ((w.alloc (.cells #[penV Bc Ba] 49)).alloc (.cells #[.int .i64 3, .int .i64 p, .string (Xaa nm), .string (Xaa ty), .slice A ex.length c, .slice Ab bd.length cb, .slice Ae el.length ce] 38)).alloc (.cells #[.int .i64 d] 3) := ⟨_, rfl⟩
 obtain ⟨g, hg⟩ : ∃ g, g = w.heap.size := ⟨_, rfl⟩
 obtain ⟨hf, hsz⟩ := Xct hX hg
 have hw : Went w Bc Ba B u X u T := by rw [hX]; exact (((Went.refl hp).alloc _).alloc _).alloc _
 have e0 := hf.sm.c0
 have hg1 : Bc < g := by rw [hg]; exact Xab hp.cnt
 have hg2 : Ba < g := by rw [hg]; exact Xab hp.buf
 have hBg : B ≤ g := by rw [hg]; exact hB
 have hwg : w.heap.size ≤ g := by rw [hg]; exact Nat.le_refl _
 have hd50 : d ≤ 50 := by omega
 have HEQ := lh (congrArg (adv T) ((penS_3 p nm ty ex bd el d).trans (by rw [if_neg hq, Xbo])))
 have HXS : Hid (g + 1 + 1 + 1 = X.heap.size) := lh (by rw [hsz])
 have HX := lh hX
 have HG := lh hg
 have HF := lh hf
 have HW := lh hw
 have HR := lh hr
 clear hX hg hf hw hsz hr
 unfold penV at HX ⊢
 go_enter Tryz.func58, Tryz.ntmps58
 have pc1 := (HF.out).pc
 have dc1 := (HF.out).dc
 go_wp2_with fail
 rw [← HX.out, ← HG.out, HXS.out]
 refine (Xaq (Went.refl (HW.out).1) (Nat.le_trans hB (HW.out).2.2.size) [Xbf 3] (by intro t ht; simp at ht; have := hnl; have := htl; first | (rcases ht with rfl | rfl | rfl | rfl <;> first | decide | assumption | simp) | (rcases ht with rfl | rfl | rfl <;> first | decide | assumption | simp) | (rcases ht with rfl | rfl <;> first | decide | assumption | simp) | (rw [ht]; first | decide | assumption) | (rw [ht]; simp)) (by simp)).mono ?_
 rintro e2 w2 hpost
 cases hR : adv T (some [Xbf 3]) with
 | none =>
   rw [hR] at hpost
   obtain ⟨rfl, hch⟩ := hpost
   have HNO := lh ((HEQ.out).trans (Xad hR _))
   have HCH := lh ((HW.out).fell hch)
   clear hR hch
   unfold boom
   go_wp2
   refine ⟨rfl, ?_⟩
   rw [HNO.out]
   exact ⟨rfl, HCH.out⟩
 | some T2 =>
   rw [hR] at hpost
   obtain ⟨rfl, u2, hwent⟩ := hpost
   have HW2 := lh ((HW.out).trans hwent)
   have HF2 := lh ((HF.out).went (HW.out).1 hg1 hg2 hwent)
   have HEQ2 := lh ((HEQ.out).trans (Xae hR _))
   clear hwent hR
   have pc3 := (HF2.out).pc
   have dc3 := (HF2.out).dc
   go_wp2_with fail
   refine (Xmh (hb.trans ((HW2.out).2.2.below hB (fun x hx => (hp.mine hx).1))) hBg hg1 hg2 (HW2.out).1 (HF2.out) (HR.out) hd0 hd50).mono ?_
   rintro e4 w4 hpost
   cases hR : adv T2 (argC ex d []) with
   | none =>
     rw [hR] at hpost
     obtain ⟨rfl, hch⟩ := hpost
     have HNO := lh ((HEQ2.out).trans (Xad hR _))
     have HCH := lh ((HW2.out).fell_fr hwg hch)
     clear hR hch
     unfold boom
     go_wp2
     refine ⟨rfl, ?_⟩
     rw [HNO.out]
     exact ⟨rfl, HCH.out⟩
   | some T4 =>
     rw [hR] at hpost
     obtain ⟨rfl, u4, V4, hpA, hown, hch, hfr, hrd⟩ := hpost
     obtain ⟨A4, c4, hV, _, _, _⟩ := id hrd
     subst hV
     have HW4 := lh ((HW2.out).fr hwg hpA hown hch)
     have HF4 := lh hfr
     have HR4 := lh hrd
     have HEQ4 := lh ((HEQ2.out).trans (Xae hR _))
     clear hpA hown hch hfr hrd hR
     have pc5 := (HF4.out).pc
     have dc5 := (HF4.out).dc
     go_wp2_with fail
     refine (Xmg (hb.trans ((HW4.out).2.2.below hB (fun x hx => (hp.mine hx).1))) hBg hg1 hg2 (HW4.out).1 (HF4.out) hbd hd0 hd50).mono ?_
     rintro e6 w6 hpost
     cases hR : adv T4 (penB bd (d + 1)) with
     | none =>
       rw [hR] at hpost
       obtain ⟨rfl, hch⟩ := hpost
       have HNO := lh ((HEQ4.out).trans (Xad hR _))
       have HCH := lh ((HW4.out).fell_fr hwg hch)
       clear hR hch
       unfold boom
       go_wp2
       refine ⟨rfl, ?_⟩
       rw [HNO.out]
       exact ⟨rfl, HCH.out⟩
     | some T6 =>
       rw [hR] at hpost
       obtain ⟨rfl, u6, hpA, hown, hch, hfr⟩ := hpost
       have HW6 := lh ((HW4.out).fr hwg hpA hown hch)
       have HF6 := lh hfr
       have HEQ6 := lh ((HEQ4.out).trans (Xae hR _))
       clear hpA hown hch hfr hR
       have k6 := (HF6.out).sm.c6
       have pc7 := (HF6.out).pc
       have dc7 := (HF6.out).dc
       go_wp2_with fail
       refine (Xaq (Went.refl (HW6.out).1) (Nat.le_trans hB (HW6.out).2.2.size) [[101, 108, 115, 101]] (by intro t ht; simp at ht; have := hnl; have := htl; first | (rcases ht with rfl | rfl | rfl | rfl <;> first | decide | assumption | simp) | (rcases ht with rfl | rfl | rfl <;> first | decide | assumption | simp) | (rcases ht with rfl | rfl <;> first | decide | assumption | simp) | (rw [ht]; first | decide | assumption) | (rw [ht]; simp)) (by simp)).mono ?_
       rintro e8 w8 hpost
       cases hR : adv T6 (some [[101, 108, 115, 101]]) with
       | none =>
         rw [hR] at hpost
         obtain ⟨rfl, hch⟩ := hpost
         have HNO := lh ((HEQ6.out).trans (Xad hR _))
         have HCH := lh ((HW6.out).fell hch)
         clear hR hch
         unfold boom
         go_wp2
         refine ⟨rfl, ?_⟩
         rw [HNO.out]
         exact ⟨rfl, HCH.out⟩
       | some T8 =>
         rw [hR] at hpost
         obtain ⟨rfl, u8, hwent⟩ := hpost
         have HW8 := lh ((HW6.out).trans hwent)
         have HF8 := lh ((HF6.out).went (HW6.out).1 hg1 hg2 hwent)
         have HEQ8 := lh ((HEQ6.out).trans (Xae hR _))
         clear hwent hR
         have pc9 := (HF8.out).pc
         have dc9 := (HF8.out).dc
         go_wp2_with fail
         refine (stb6_any (hb.trans ((HW8.out).2.2.below hB (fun x hx => (hp.mine hx).1))) hBg hg1 hg2 (HW8.out).1 (HF8.out) hel hd0 hd50).mono ?_
         rintro e10 w10 hpost
         cases hR : adv T8 (penB el (d + 1)) with
         | none =>
           rw [hR] at hpost
           obtain ⟨rfl, hch⟩ := hpost
           have HNO := lh ((HEQ8.out).trans (Xad hR _))
           have HCH := lh ((HW8.out).fell_fr hwg hch)
           clear hR hch
           unfold boom
           go_wp2
           refine ⟨rfl, ?_⟩
           rw [HNO.out]
           exact ⟨rfl, HCH.out⟩
         | some T10 =>
           rw [hR] at hpost
           obtain ⟨rfl, u10, hpA, hown, hch, hfr⟩ := hpost
           have HW10 := lh ((HW8.out).fr hwg hpA hown hch)
           have HF10 := lh hfr
           have HEQ10 := lh ((HEQ8.out).trans (Xae hR _))
           clear hpA hown hch hfr hR
           have c2 := (HF10.out).sm.c2
           have c3 := (HF10.out).sm.c3
           have c4 := (HF10.out).sm.c4
           have c5 := (HF10.out).sm.c5
           have c6 := (HF10.out).sm.c6
           have hz0 : (Xaa []).toList = [] := Xaf []
           obtain ⟨m, hm⟩ : ∃ m, m = (ex.tail).length := ⟨_, rfl⟩
           rw [← hm] at c4
           by_cases hn : nm = []
           case neg =>
            have HNO := lh ((HEQ10.out).trans (show adv T10 (need _ (some [])) = none from by rw [Xag (fun h => hn h.1)]; rfl))
            have hs1 : ¬ (Xaa nm).toList = [] := by rw [Xaf]; exact hn
            clear hm hn
            go_wp2_with fail
            refine (Xah _).mono ?_
            rintro e9 w9 ⟨rfl, rfl⟩
            unfold boom
            go_wp2
            refine ⟨rfl, ?_⟩
            rw [HNO.out]
            exact ⟨rfl, (HW10.out).2.2⟩
           by_cases ht : ty = []
           case neg =>
            have HNO := lh ((HEQ10.out).trans (show adv T10 (need _ (some [])) = none from by rw [Xag (fun h => ht h.2.1)]; rfl))
            subst hn
            have hs1 : ¬ (Xaa ty).toList = [] := by rw [Xaf]; exact ht
            clear hm ht
            go_wp2_with fail
            refine (Xah _).mono ?_
            rintro e9 w9 ⟨rfl, rfl⟩
            unfold boom
            go_wp2
            refine ⟨rfl, ?_⟩
            rw [HNO.out]
            exact ⟨rfl, (HW10.out).2.2⟩
           by_cases hx : (ex.tail).length = 0
           case neg =>
            have HNO := lh ((HEQ10.out).trans (show adv T10 (need _ (some [])) = none from by rw [Xag (fun h => hx h.2.2)]; rfl))
            subst hn
            subst ht
            have hl1 : (m == 0) = false := by rw [beq_eq_false_iff_ne]; omega
            have hl2 : ((m : Int) == 0) = false := by rw [beq_eq_false_iff_ne]; omega
            clear hm hx
            go_wp2_with fail
            refine (Xah _).mono ?_
            rintro e9 w9 ⟨rfl, rfl⟩
            unfold boom
            go_wp2
            refine ⟨rfl, ?_⟩
            rw [HNO.out]
            exact ⟨rfl, (HW10.out).2.2⟩
           have HFIN := lh ((HEQ10.out).trans (show adv T10 (need _ (some [])) = some T10 from by rw [Xai ⟨hn, ht, hx⟩]; exact Xbe (HW10.out).1.fit))
           subst hn
           subst ht
           obtain rfl : m = 0 := by omega
           clear hm hx
           go_wp2_with fail
           refine (Xaj _).mono ?_
           rintro e9 w9 ⟨rfl, rfl⟩
           go_wp2
           go_end0
           rw [HFIN.out]
           exact ⟨rfl, _, HW10.out⟩
set_option maxRecDepth 100000 in
set_option maxHeartbeats 4000000 in
theorem Xws {w0 w : World} {Bc Ba B : Nat} {u : Value} {T : List (List UInt8)} {p : Int} {nm ty : List UInt8} {V bv ev : Value} {ex : List Ex} {bd el : List Sm} {d : Int} (hb : Below B w0 w) (hB : B ≤ w.heap.size) (hp : Xap w Bc Ba B u T) (hd0 : 0 ≤ d) (hd : d ≤ 24) (hr : Xbd w0 B ex V) (hnl : nm.length ≤ 40000) (htl : ty.length ≤ 40000)
  (hbd : Xao w0 B bd bv) (hel : Xao w0 B el ev) (hbs : ∃ A c, bv = .slice A bd.length c) (hes : ∃ A c, ev = .slice A el.length c) (hq : ex.length = 0) :
  Calls Tryz.prog 58 #[penV Bc Ba, .agg #[.int .i64 11, .int .i64 p, .string (Xaa nm), .string (Xaa ty), V, bv, ev], .int .i64 d] w (Xal w Bc Ba B u (adv T (penS (.mk 11 p nm ty ex bd el) d))) := by
 have hq1 : ¬ 0 < ex.length := by omega
 have hq2 : (ex.length == 0) = true := by rw [beq_iff_eq]; exact hq
 have hq3 : ((ex.length : Int) == 0) = true := by rw [beq_iff_eq]; omega
 have hmf : ∀ (fn : Fn) (first cap : Array Value) (w : World), (Instr.makeFunc fn first cap).run Tryz.prog w = .ok (.func fn first cap) w := fun _ _ _ _ => rfl
 obtain ⟨A, c, hrv, _, _, _⟩ := id hr
 subst hrv
 obtain ⟨Ab, cb, hbv⟩ := hbs
 subst hbv
 obtain ⟨Ae, ce, hev⟩ := hes
 subst hev
 obtain ⟨X, hX⟩ : ∃ X : World, X = ((w.alloc (.cells #[penV Bc Ba] 49)).alloc (.cells #[.int .i64 11, .int .i64 p, .string (Xaa nm), .string (Xaa ty), .slice A ex.length c, .slice Ab bd.length cb, .slice Ae el.length ce] 38)).alloc (.cells #[.int .i64 d] 3) := ⟨_, rfl⟩
 obtain ⟨g, hg⟩ : ∃ g, g = w.heap.size := ⟨_, rfl⟩
 obtain ⟨hf, hsz⟩ := Xct hX hg
 have hw : Went w Bc Ba B u X u T := by rw [hX]; exact (((Went.refl hp).alloc _).alloc _).alloc _
 have e0 := hf.sm.c0
 have hg1 : Bc < g := by rw [hg]; exact Xab hp.cnt
 have hg2 : Ba < g := by rw [hg]; exact Xab hp.buf
 have hBg : B ≤ g := by rw [hg]; exact hB
 have hwg : w.heap.size ≤ g := by rw [hg]; exact Nat.le_refl _
 have hd50 : d ≤ 50 := by omega
 have HEQ := lh (congrArg (adv T) ((Xvs p nm ty ex bd el d).trans (by rw [if_pos hq, Xbh, need_iff (show (nm = [] ∧ ty = [] ∧ ex.tail.length = 0 ∧ bd.length = 0 ∧ el.length = 0) ↔ (nm = [] ∧ ty = [] ∧ bd.length = 0 ∧ el.length = 0) from by rw [List.length_tail, hq]; simp)])))
 have HXS : Hid (g + 1 + 1 + 1 = X.heap.size) := lh (by rw [hsz])
 have HX := lh hX
 have HG := lh hg
 have HF := lh hf
 have HW := lh hw
 have HR := lh hr
 clear hX hg hf hw hsz hr
 clear hq
 unfold penV at HX ⊢
 go_enter Tryz.func58, Tryz.ntmps58
 have pc1 := (HF.out).pc
 have dc1 := (HF.out).dc
 go_wp2_with fail
 rw [← HX.out, ← HG.out, HXS.out]
 refine (Xaq (Went.refl (HW.out).1) (Nat.le_trans hB (HW.out).2.2.size) [Xbf 11] (by intro t ht; simp at ht; have := hnl; have := htl; first | (rcases ht with rfl | rfl | rfl | rfl <;> first | decide | assumption | simp) | (rcases ht with rfl | rfl | rfl <;> first | decide | assumption | simp) | (rcases ht with rfl | rfl <;> first | decide | assumption | simp) | (rw [ht]; first | decide | assumption) | (rw [ht]; simp)) (by simp)).mono ?_
 rintro e2 w2 hpost
 cases hR : adv T (some [Xbf 11]) with
 | none =>
   rw [hR] at hpost
   obtain ⟨rfl, hch⟩ := hpost
   have HNO := lh ((HEQ.out).trans (Xad hR _))
   have HCH := lh ((HW.out).fell hch)
   clear hR hch
   unfold boom
   go_wp2
   refine ⟨rfl, ?_⟩
   rw [HNO.out]
   exact ⟨rfl, HCH.out⟩
 | some T2 =>
   rw [hR] at hpost
   obtain ⟨rfl, u2, hwent⟩ := hpost
   have HW2 := lh ((HW.out).trans hwent)
   have HF2 := lh ((HF.out).went (HW.out).1 hg1 hg2 hwent)
   have HEQ2 := lh ((HEQ.out).trans (Xae hR _))
   clear hwent hR
   have k4 := (HF2.out).sm.c4
   have pc3 := (HF2.out).pc
   have dc3 := (HF2.out).dc
   go_wp2_with fail
   refine (Xaq (Went.refl (HW2.out).1) (Nat.le_trans hB (HW2.out).2.2.size) [[59]] (by intro t ht; simp at ht; have := hnl; have := htl; first | (rcases ht with rfl | rfl | rfl | rfl <;> first | decide | assumption | simp) | (rcases ht with rfl | rfl | rfl <;> first | decide | assumption | simp) | (rcases ht with rfl | rfl <;> first | decide | assumption | simp) | (rw [ht]; first | decide | assumption) | (rw [ht]; simp)) (by simp)).mono ?_
   rintro e4 w4 hpost
   cases hR : adv T2 (some [[59]]) with
   | none =>
     rw [hR] at hpost
     obtain ⟨rfl, hch⟩ := hpost
     have HNO := lh ((HEQ2.out).trans (Xad hR _))
     have HCH := lh ((HW2.out).fell hch)
     clear hR hch
     unfold boom
     go_wp2
     refine ⟨rfl, ?_⟩
     rw [HNO.out]
     exact ⟨rfl, HCH.out⟩
   | some T4 =>
     rw [hR] at hpost
     obtain ⟨rfl, u4, hwent⟩ := hpost
     have HW4 := lh ((HW2.out).trans hwent)
     have HF4 := lh ((HF2.out).went (HW2.out).1 hg1 hg2 hwent)
     have HEQ4 := lh ((HEQ2.out).trans (Xae hR _))
     clear hwent hR
     have c2 := (HF4.out).sm.c2
     have c3 := (HF4.out).sm.c3
     have c4 := (HF4.out).sm.c4
     have c5 := (HF4.out).sm.c5
     have c6 := (HF4.out).sm.c6
     have hz0 : (Xaa []).toList = [] := Xaf []
     obtain ⟨nb, hnb⟩ : ∃ m, m = bd.length := ⟨_, rfl⟩
     rw [← hnb] at c5
     obtain ⟨ne, hne⟩ : ∃ m, m = el.length := ⟨_, rfl⟩
     rw [← hne] at c6
     by_cases hn : nm = []
     case neg =>
      have HNO := lh ((HEQ4.out).trans (show adv T4 (need _ (some [])) = none from by rw [Xag (fun h => hn h.1)]; rfl))
      have hs1 : ¬ (Xaa nm).toList = [] := by rw [Xaf]; exact hn
      clear hnb hne hn
      go_wp2_with fail
      refine (Xah _).mono ?_
      rintro e9 w9 ⟨rfl, rfl⟩
      unfold boom
      go_wp2
      refine ⟨rfl, ?_⟩
      rw [HNO.out]
      exact ⟨rfl, (HW4.out).2.2⟩
     by_cases ht : ty = []
     case neg =>
      have HNO := lh ((HEQ4.out).trans (show adv T4 (need _ (some [])) = none from by rw [Xag (fun h => ht h.2.1)]; rfl))
      subst hn
      have hs1 : ¬ (Xaa ty).toList = [] := by rw [Xaf]; exact ht
      clear hnb hne ht
      go_wp2_with fail
      refine (Xah _).mono ?_
      rintro e9 w9 ⟨rfl, rfl⟩
      unfold boom
      go_wp2
      refine ⟨rfl, ?_⟩
      rw [HNO.out]
      exact ⟨rfl, (HW4.out).2.2⟩
     by_cases hbl0 : bd.length = 0
     case neg =>
      have HNO := lh ((HEQ4.out).trans (show adv T4 (need _ (some [])) = none from by rw [Xag (fun h => hbl0 h.2.2.1)]; rfl))
      subst hn
      subst ht
      have hl1 : (nb == 0) = false := by rw [beq_eq_false_iff_ne]; omega
      have hl2 : ((nb : Int) == 0) = false := by rw [beq_eq_false_iff_ne]; omega
      clear hnb hne hbl0
      go_wp2_with fail
      refine (Xah _).mono ?_
      rintro e9 w9 ⟨rfl, rfl⟩
      unfold boom
      go_wp2
      refine ⟨rfl, ?_⟩
      rw [HNO.out]
      exact ⟨rfl, (HW4.out).2.2⟩
     by_cases hel0 : el.length = 0
     case neg =>
      have HNO := lh ((HEQ4.out).trans (show adv T4 (need _ (some [])) = none from by rw [Xag (fun h => hel0 h.2.2.2)]; rfl))
      subst hn
      subst ht
      obtain rfl : nb = 0 := by omega
      have hl1 : (ne == 0) = false := by rw [beq_eq_false_iff_ne]; omega
      have hl2 : ((ne : Int) == 0) = false := by rw [beq_eq_false_iff_ne]; omega
      clear hnb hne hbl0 hel0
      go_wp2_with fail
      refine (Xah _).mono ?_
      rintro e9 w9 ⟨rfl, rfl⟩
      unfold boom
      go_wp2
      refine ⟨rfl, ?_⟩
      rw [HNO.out]
      exact ⟨rfl, (HW4.out).2.2⟩
     have HFIN := lh ((HEQ4.out).trans (show adv T4 (need _ (some [])) = some T4 from by rw [Xai ⟨hn, ht, hbl0, hel0⟩]; exact Xbe (HW4.out).1.fit))
     subst hn
     subst ht
     obtain rfl : nb = 0 := by omega
     obtain rfl : ne = 0 := by omega
     clear hnb hne hbl0 hel0
     go_wp2_with fail
     refine (Xaj _).mono ?_
     rintro e9 w9 ⟨rfl, rfl⟩
     go_wp2
     go_end0
     rw [HFIN.out]
     exact ⟨rfl, _, HW4.out⟩
set_option maxRecDepth 100000 in
set_option maxHeartbeats 4000000 in
theorem Xwt {w0 w : World} {Bc Ba B : Nat} {u : Value} {T : List (List UInt8)} {p : Int} {nm ty : List UInt8} {V bv ev : Value} {ex : List Ex} {bd el : List Sm} {d : Int} (hb : Below B w0 w) (hB : B ≤ w.heap.size) (hp : Xap w Bc Ba B u T) (hd0 : 0 ≤ d) (hd : d ≤ 24) (hr : Xbd w0 B ex V) (hnl : nm.length ≤ 40000) (htl : ty.length ≤ 40000)
  (hbd : Xao w0 B bd bv) (hel : Xao w0 B el ev) (hbs : ∃ A c, bv = .slice A bd.length c) (hes : ∃ A c, ev = .slice A el.length c) (hq : ¬ ex.length = 0) :
  Calls Tryz.prog 58 #[penV Bc Ba, .agg #[.int .i64 11, .int .i64 p, .string (Xaa nm), .string (Xaa ty), V, bv, ev], .int .i64 d] w (Xal w Bc Ba B u (adv T (penS (.mk 11 p nm ty ex bd el) d))) := by
 have hgt : 0 < ex.length := by omega
 have hmf : ∀ (fn : Fn) (first cap : Array Value) (w : World), (Instr.makeFunc fn first cap).run Tryz.prog w = .ok (.func fn first cap) w := fun _ _ _ _ => rfl
 obtain ⟨A, c, hrv, _, _, _⟩ := id hr
 subst hrv
 obtain ⟨Ab, cb, hbv⟩ := hbs
 subst hbv
 obtain ⟨Ae, ce, hev⟩ := hes
 subst hev
 obtain ⟨X, hX⟩ : ∃ X : World, X = ((w.alloc (.cells #[penV Bc Ba] 49)).alloc (.cells #[.int .i64 11, .int .i64 p, .string (Xaa nm), .string (Xaa ty), .slice A ex.length c, .slice Ab bd.length cb, .slice Ae el.length ce] 38)).alloc (.cells #[.int .i64 d] 3) := ⟨_, rfl⟩
 obtain ⟨g, hg⟩ : ∃ g, g = w.heap.size := ⟨_, rfl⟩
 obtain ⟨hf, hsz⟩ := Xct hX hg
 have hw : Went w Bc Ba B u X u T := by rw [hX]; exact (((Went.refl hp).alloc _).alloc _).alloc _
 have e0 := hf.sm.c0
 have hg1 : Bc < g := by rw [hg]; exact Xab hp.cnt
 have hg2 : Ba < g := by rw [hg]; exact Xab hp.buf
 have hBg : B ≤ g := by rw [hg]; exact hB
 have hwg : w.heap.size ≤ g := by rw [hg]; exact Nat.le_refl _
 have hd50 : d ≤ 50 := by omega
 have HEQ := lh (congrArg (adv T) ((Xvs p nm ty ex bd el d).trans (by rw [if_neg hq])))
 have HXS : Hid (g + 1 + 1 + 1 = X.heap.size) := lh (by rw [hsz])
 have HX := lh hX
 have HG := lh hg
 have HF := lh hf
 have HW := lh hw
 have HR := lh hr
 clear hX hg hf hw hsz hr
 unfold penV at HX ⊢
 go_enter Tryz.func58, Tryz.ntmps58
 have pc1 := (HF.out).pc
 have dc1 := (HF.out).dc
 go_wp2_with fail
 rw [← HX.out, ← HG.out, HXS.out]
 refine (Xaq (Went.refl (HW.out).1) (Nat.le_trans hB (HW.out).2.2.size) [Xbf 11] (by intro t ht; simp at ht; have := hnl; have := htl; first | (rcases ht with rfl | rfl | rfl | rfl <;> first | decide | assumption | simp) | (rcases ht with rfl | rfl | rfl <;> first | decide | assumption | simp) | (rcases ht with rfl | rfl <;> first | decide | assumption | simp) | (rw [ht]; first | decide | assumption) | (rw [ht]; simp)) (by simp)).mono ?_
 rintro e2 w2 hpost
 cases hR : adv T (some [Xbf 11]) with
 | none =>
   rw [hR] at hpost
   obtain ⟨rfl, hch⟩ := hpost
   have HNO := lh ((HEQ.out).trans (Xad hR _))
   have HCH := lh ((HW.out).fell hch)
   clear hR hch
   unfold boom
   go_wp2
   refine ⟨rfl, ?_⟩
   rw [HNO.out]
   exact ⟨rfl, HCH.out⟩
 | some T2 =>
   rw [hR] at hpost
   obtain ⟨rfl, u2, hwent⟩ := hpost
   have HW2 := lh ((HW.out).trans hwent)
   have HF2 := lh ((HF.out).went (HW.out).1 hg1 hg2 hwent)
   have HEQ2 := lh ((HEQ.out).trans (Xae hR _))
   clear hwent hR
   have k4 := (HF2.out).sm.c4
   have pc3 := (HF2.out).pc
   have dc3 := (HF2.out).dc
   go_wp2_with fail
   refine (Xmh (hb.trans ((HW2.out).2.2.below hB (fun x hx => (hp.mine hx).1))) hBg hg1 hg2 (HW2.out).1 (HF2.out) (HR.out) hd0 hd50).mono ?_
   rintro e4 w4 hpost
   cases hR : adv T2 (argC ex d []) with
   | none =>
     rw [hR] at hpost
     obtain ⟨rfl, hch⟩ := hpost
     have HNO := lh ((HEQ2.out).trans (Xad hR _))
     have HCH := lh ((HW2.out).fell_fr hwg hch)
     clear hR hch
     unfold boom
     go_wp2
     refine ⟨rfl, ?_⟩
     rw [HNO.out]
     exact ⟨rfl, HCH.out⟩
   | some T4 =>
     rw [hR] at hpost
     obtain ⟨rfl, u4, V4, hpA, hown, hch, hfr, hrd⟩ := hpost
     obtain ⟨A4, c4, hV, _, _, _⟩ := id hrd
     subst hV
     have HW4 := lh ((HW2.out).fr hwg hpA hown hch)
     have HF4 := lh hfr
     have HR4 := lh hrd
     have HEQ4 := lh ((HEQ2.out).trans (Xae hR _))
     clear hpA hown hch hfr hrd hR
     have pc5 := (HF4.out).pc
     have dc5 := (HF4.out).dc
     go_wp2_with fail
     refine (Xaq (Went.refl (HW4.out).1) (Nat.le_trans hB (HW4.out).2.2.size) [[59]] (by intro t ht; simp at ht; have := hnl; have := htl; first | (rcases ht with rfl | rfl | rfl | rfl <;> first | decide | assumption | simp) | (rcases ht with rfl | rfl | rfl <;> first | decide | assumption | simp) | (rcases ht with rfl | rfl <;> first | decide | assumption | simp) | (rw [ht]; first | decide | assumption) | (rw [ht]; simp)) (by simp)).mono ?_
     rintro e6 w6 hpost
     cases hR : adv T4 (some [[59]]) with
     | none =>
       rw [hR] at hpost
       obtain ⟨rfl, hch⟩ := hpost
       have HNO := lh ((HEQ4.out).trans (Xad hR _))
       have HCH := lh ((HW4.out).fell hch)
       clear hR hch
       unfold boom
       go_wp2
       refine ⟨rfl, ?_⟩
       rw [HNO.out]
       exact ⟨rfl, HCH.out⟩
     | some T6 =>
       rw [hR] at hpost
       obtain ⟨rfl, u6, hwent⟩ := hpost
       have HW6 := lh ((HW4.out).trans hwent)
       have HF6 := lh ((HF4.out).went (HW4.out).1 hg1 hg2 hwent)
       have HEQ6 := lh ((HEQ4.out).trans (Xae hR _))
       clear hwent hR
       have c2 := (HF6.out).sm.c2
       have c3 := (HF6.out).sm.c3
       have c4 := (HF6.out).sm.c4
       have c5 := (HF6.out).sm.c5
       have c6 := (HF6.out).sm.c6
       have hz0 : (Xaa []).toList = [] := Xaf []
       obtain ⟨m, hm⟩ : ∃ m, m = (ex.tail).length := ⟨_, rfl⟩
       rw [← hm] at c4
       obtain ⟨nb, hnb⟩ : ∃ m, m = bd.length := ⟨_, rfl⟩
       rw [← hnb] at c5
       obtain ⟨ne, hne⟩ : ∃ m, m = el.length := ⟨_, rfl⟩
       rw [← hne] at c6
       by_cases hn : nm = []
       case neg =>
        have HNO := lh ((HEQ6.out).trans (show adv T6 (need _ (some [])) = none from by rw [Xag (fun h => hn h.1)]; rfl))
        have hs1 : ¬ (Xaa nm).toList = [] := by rw [Xaf]; exact hn
        clear hm hnb hne hn
        go_wp2_with fail
        refine (Xah _).mono ?_
        rintro e9 w9 ⟨rfl, rfl⟩
        unfold boom
        go_wp2
        refine ⟨rfl, ?_⟩
        rw [HNO.out]
        exact ⟨rfl, (HW6.out).2.2⟩
       by_cases ht : ty = []
       case neg =>
        have HNO := lh ((HEQ6.out).trans (show adv T6 (need _ (some [])) = none from by rw [Xag (fun h => ht h.2.1)]; rfl))
        subst hn
        have hs1 : ¬ (Xaa ty).toList = [] := by rw [Xaf]; exact ht
        clear hm hnb hne ht
        go_wp2_with fail
        refine (Xah _).mono ?_
        rintro e9 w9 ⟨rfl, rfl⟩
        unfold boom
        go_wp2
        refine ⟨rfl, ?_⟩
        rw [HNO.out]
        exact ⟨rfl, (HW6.out).2.2⟩
       by_cases hx : (ex.tail).length = 0
       case neg =>
        have HNO := lh ((HEQ6.out).trans (show adv T6 (need _ (some [])) = none from by rw [Xag (fun h => hx h.2.2.1)]; rfl))
        subst hn
        subst ht
        have hl1 : (m == 0) = false := by rw [beq_eq_false_iff_ne]; omega
        have hl2 : ((m : Int) == 0) = false := by rw [beq_eq_false_iff_ne]; omega
        clear hm hnb hne hx
        go_wp2_with fail
        refine (Xah _).mono ?_
        rintro e9 w9 ⟨rfl, rfl⟩
        unfold boom
        go_wp2
        refine ⟨rfl, ?_⟩
        rw [HNO.out]
        exact ⟨rfl, (HW6.out).2.2⟩
       by_cases hbl0 : bd.length = 0
       case neg =>
        have HNO := lh ((HEQ6.out).trans (show adv T6 (need _ (some [])) = none from by rw [Xag (fun h => hbl0 h.2.2.2.1)]; rfl))
        subst hn
        subst ht
        obtain rfl : m = 0 := by omega
        have hl1 : (nb == 0) = false := by rw [beq_eq_false_iff_ne]; omega
        have hl2 : ((nb : Int) == 0) = false := by rw [beq_eq_false_iff_ne]; omega
        clear hm hnb hne hx hbl0
        go_wp2_with fail
        refine (Xah _).mono ?_
        rintro e9 w9 ⟨rfl, rfl⟩
        unfold boom
        go_wp2
        refine ⟨rfl, ?_⟩
        rw [HNO.out]
        exact ⟨rfl, (HW6.out).2.2⟩
       by_cases hel0 : el.length = 0
       case neg =>
        have HNO := lh ((HEQ6.out).trans (show adv T6 (need _ (some [])) = none from by rw [Xag (fun h => hel0 h.2.2.2.2)]; rfl))
        subst hn
        subst ht
        obtain rfl : m = 0 := by omega
        obtain rfl : nb = 0 := by omega
        have hl1 : (ne == 0) = false := by rw [beq_eq_false_iff_ne]; omega
        have hl2 : ((ne : Int) == 0) = false := by rw [beq_eq_false_iff_ne]; omega
        clear hm hnb hne hx hbl0 hel0
        go_wp2_with fail
        refine (Xah _).mono ?_
        rintro e9 w9 ⟨rfl, rfl⟩
        unfold boom
        go_wp2
        refine ⟨rfl, ?_⟩
        rw [HNO.out]
        exact ⟨rfl, (HW6.out).2.2⟩
       have HFIN := lh ((HEQ6.out).trans (show adv T6 (need _ (some [])) = some T6 from by rw [Xai ⟨hn, ht, hx, hbl0, hel0⟩]; exact Xbe (HW6.out).1.fit))
       subst hn
       subst ht
       obtain rfl : m = 0 := by omega
       obtain rfl : nb = 0 := by omega
       obtain rfl : ne = 0 := by omega
       clear hm hnb hne hx hbl0 hel0
       go_wp2_with fail
       refine (Xaj _).mono ?_
       rintro e9 w9 ⟨rfl, rfl⟩
       go_wp2
       go_end0
       rw [HFIN.out]
       exact ⟨rfl, _, HW6.out⟩
set_option maxRecDepth 100000 in
set_option maxHeartbeats 4000000 in
theorem Xxa {w0 w : World} {Bc Ba B : Nat} {u : Value} {T : List (List UInt8)} {p : Int} {nm ty : List UInt8} {V bv ev : Value} {ex : List Ex} {bd el : List Sm} {d : Int} (hb : Below B w0 w) (hB : B ≤ w.heap.size) (hp : Xap w Bc Ba B u T) (hd0 : 0 ≤ d) (hd : d ≤ 24) (hr : Xbd w0 B ex V) (hnl : nm.length ≤ 40000) (htl : ty.length ≤ 40000)
  (hbd : Xao w0 B bd bv) (hel : Xao w0 B el ev) (hbs : ∃ A c, bv = .slice A bd.length c) (hes : ∃ A c, ev = .slice A el.length c) {k : Int} (hk : k < 1 ∨ 11 < k) :
  Calls Tryz.prog 58 #[penV Bc Ba, .agg #[.int .i64 k, .int .i64 p, .string (Xaa nm), .string (Xaa ty), V, bv, ev], .int .i64 d] w (Xal w Bc Ba B u (adv T (penS (.mk k p nm ty ex bd el) d))) := by
 have e1k : (k == 1) = false := by rw [beq_eq_false_iff_ne]; omega
 have e2k : (k == 2) = false := by rw [beq_eq_false_iff_ne]; omega
 have e3k : (k == 3) = false := by rw [beq_eq_false_iff_ne]; omega
 have e4k : (k == 4) = false := by rw [beq_eq_false_iff_ne]; omega
 have e5k : (k == 5) = false := by rw [beq_eq_false_iff_ne]; omega
 have e6k : (k == 6) = false := by rw [beq_eq_false_iff_ne]; omega
 have e7k : (k == 7) = false := by rw [beq_eq_false_iff_ne]; omega
 have e8k : (k == 8) = false := by rw [beq_eq_false_iff_ne]; omega
 have e9k : (k == 9) = false := by rw [beq_eq_false_iff_ne]; omega
 have e10k : (k == 10) = false := by rw [beq_eq_false_iff_ne]; omega
 have e11k : (k == 11) = false := by rw [beq_eq_false_iff_ne]; omega
 have hmf : ∀ (fn : Fn) (first cap : Array Value) (w : World), (Instr.makeFunc fn first cap).run Tryz.prog w = .ok (.func fn first cap) w := fun _ _ _ _ => rfl
 obtain ⟨A, c, hrv, _, _, _⟩ := id hr
 subst hrv
 obtain ⟨Ab, cb, hbv⟩ := hbs
 subst hbv
 obtain ⟨Ae, ce, hev⟩ := hes
 subst hev
 obtain ⟨X, hX⟩ : ∃ X : World, X = ((w.alloc (.cells #[penV Bc Ba] 49)).alloc (.cells #[.int .i64 k, .int .i64 p, .string (Xaa nm), .string (Xaa ty), .slice A ex.length c, .slice Ab bd.length cb, .slice Ae el.length ce] 38)).alloc (.cells #[.int .i64 d] 3) := ⟨_, rfl⟩
 obtain ⟨g, hg⟩ : ∃ g, g = w.heap.size := ⟨_, rfl⟩
 obtain ⟨hf, hsz⟩ := Xct hX hg
 have hw : Went w Bc Ba B u X u T := by rw [hX]; exact (((Went.refl hp).alloc _).alloc _).alloc _
 have e0 := hf.sm.c0
 have hg1 : Bc < g := by rw [hg]; exact Xab hp.cnt
 have hg2 : Ba < g := by rw [hg]; exact Xab hp.buf
 have hBg : B ≤ g := by rw [hg]; exact hB
 have hwg : w.heap.size ≤ g := by rw [hg]; exact Nat.le_refl _
 have hd50 : d ≤ 50 := by omega
 have HEQ := lh (congrArg (adv T) (Xvv p nm ty ex bd el d k hk))
 have HXS : Hid (g + 1 + 1 + 1 = X.heap.size) := lh (by rw [hsz])
 have HX := lh hX
 have HG := lh hg
 have HF := lh hf
 have HW := lh hw
 have HR := lh hr
 clear hX hg hf hw hsz hr
 unfold penV at HX ⊢
 go_enter Tryz.func58, Tryz.ntmps58
 clear hk
 have pc1 := (HF.out).pc
 have dc1 := (HF.out).dc
 go_wp2_with fail
 rw [← HX.out]
 have HNO := HEQ
 refine (Xah _).mono ?_
 rintro e2 w2 ⟨rfl, rfl⟩
 have HCH := lh ((HW.out).2.2)
 unfold boom
 go_wp2
 refine ⟨rfl, ?_⟩
 rw [HNO.out]
 exact ⟨rfl, HCH.out⟩
end Go.Proofs.YtodociiaobjfgaaGreatDoor
