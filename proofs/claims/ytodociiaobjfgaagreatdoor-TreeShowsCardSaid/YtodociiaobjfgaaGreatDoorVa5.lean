/- Vm -/
import Derived.Test.YtodociiaobjfgaaGreatDoorVb0
set_option linter.unusedVariables false
set_option linter.unusedSimpArgs false
namespace Go.Proofs.YtodociiaobjfgaaGreatDoor
open Go.RowKit
set_option maxRecDepth 100000 in
set_option maxHeartbeats 2000000 in
theorem expr_7 {w0 w : World} {Bc Ba B : Nat} {u : Value} {T : List (List UInt8)} {p n : Int} {s : List UInt8} {r : Value} {args : List Ex} {d ch : Int} (hb : Below B w0 w) (hB : B ≤ w.heap.size) (hp : Xap w Bc Ba B u T) (hd0 : 0 ≤ d) (hd : d ≤ 24) (hc0 : 0 ≤ ch) (hr : Xbd w0 B args r) (hs : s.length ≤ 40000) :
  Calls Tryz.prog 70 #[penV Bc Ba, .agg #[.int .i64 7, .int .i64 p, .int .i64 n, .string (Xaa s), r], .int .i64 d, .int .i64 ch] w (Xal w Bc Ba B u (adv T (penE (.mk 7 p n s args) d ch))) := by
 have hmf : ∀ (fn : Fn) (first cap : Array Value) (w : World), (Instr.makeFunc fn first cap).run Tryz.prog w = .ok (.func fn first cap) w := fun _ _ _ _ => rfl
 obtain ⟨A, c, hrv, _, _, _⟩ := id hr
 subst hrv
 obtain ⟨X, hX⟩ : ∃ X : World, X = (((w.alloc (.cells #[penV Bc Ba] 49)).alloc (.cells #[.int .i64 7, .int .i64 p, .int .i64 n, .string (Xaa s), .slice A args.length c] 35)).alloc (.cells #[.int .i64 d] 3)).alloc (.cells #[.int .i64 ch] 3) := ⟨_, rfl⟩
 obtain ⟨g, hg⟩ : ∃ g, g = w.heap.size := ⟨_, rfl⟩
 obtain ⟨hf, hsz⟩ := Xcu hX hg
 have hw : Went w Bc Ba B u X u T := by rw [hX]; exact ((((Went.refl hp).alloc _).alloc _).alloc _).alloc _
 have e0 := hf.ex.c0
 have hg1 : Bc < g := by rw [hg]; exact Xab hp.cnt
 have hg2 : Ba < g := by rw [hg]; exact Xab hp.buf
 have hBg : B ≤ g := by rw [hg]; exact hB
 have hwg : w.heap.size ≤ g := by rw [hg]; exact Nat.le_refl _
 have hd50 : d ≤ 50 := by omega
 have HEQ := lh (congrArg (adv T) (penE_7 p n s args d ch hd))
 have HX := lh hX
 have HG := lh hg
 have HF := lh hf
 have HW := lh hw
 have HR := lh hr
 clear hX hg hf hw hsz hr
 unfold penV at HX ⊢
 go_enter Tryz.func70, Tryz.ntmps70
 go_wp2_with fail
 rw [← HX.out, ← HG.out]
 refine (Xaj _).mono ?_
 rintro e1 w1 ⟨rfl, rfl⟩
 have pc1 := (HF.out).pc
 go_wp2_with fail
 refine (Xpj (hb.trans ((HW.out).2.2.below hB (fun x hx => (hp.mine hx).1))) hBg hg1 hg2 (HW.out).1 (HF.out) (HR.out) hd0 hd50 hc0 [[91]] (by intro t ht; simp at ht; have := hs; first | (rcases ht with rfl | rfl | rfl <;> first | decide | exact hs | simp) | (rw [ht]; first | decide | exact hs) | (rw [ht]; simp)) (by simp)).mono ?_
 rintro e2 w2 hpost
 cases hR : adv T (objC args d ch [[91]]) with
 | none =>
   rw [hR] at hpost
   obtain ⟨rfl, hch⟩ := hpost
   have HNO := lh ((HEQ.out).trans (Xad hR _))
   have HCH := lh ((HW.out).fell_fr hwg hch)
   clear hR hch
   unfold boom
   go_wp2
   refine ⟨rfl, ?_⟩
   rw [HNO.out]
   exact ⟨rfl, HCH.out⟩
 | some T2 =>
   rw [hR] at hpost
   obtain ⟨rfl, u2, V2, hpA, hown, hch, hfr, hrd⟩ := hpost
   obtain ⟨A2, c2, hV, _, _, _⟩ := id hrd
   subst hV
   have HW2 := lh ((HW.out).fr hwg hpA hown hch)
   have HF2 := lh hfr
   have HR2 := lh hrd
   have HEQ2 := lh ((HEQ.out).trans (Xae hR _))
   clear hpA hown hch hfr hrd hR
   have pc3 := (HF2.out).pc
   go_wp2_with fail
   refine (Xga (hb.trans ((HW2.out).2.2.below hB (fun x hx => (hp.mine hx).1))) hBg hg1 hg2 (HW2.out).1 (HF2.out) (HR2.out) hd0 hd50 [[58]] (by intro t ht; simp at ht; have := hs; first | (rcases ht with rfl | rfl | rfl <;> first | decide | exact hs | simp) | (rw [ht]; first | decide | exact hs) | (rw [ht]; simp)) (by simp)).mono ?_
   rintro e4 w4 hpost
   cases hR : adv T2 (argC args.tail d [[58]]) with
   | none =>
     rw [hR] at hpost
     obtain ⟨rfl, hch⟩ := hpost
     have HNO := lh ((HEQ2.out).trans (Xad hR _))
     have HCH := lh ((HW2.out).fell_fr hwg hch)
     clear hR hch
     unfold boom
     go_wp2
     refine ⟨rfl, ?_⟩
     rw [HNO.out]
     exact ⟨rfl, HCH.out⟩
   | some T4 =>
     rw [hR] at hpost
     obtain ⟨rfl, u4, V4, hpA, hown, hch, hfr, hrd⟩ := hpost
     obtain ⟨A4, c4, hV, _, _, _⟩ := id hrd
     subst hV
     have HW4 := lh ((HW2.out).fr hwg hpA hown hch)
     have HF4 := lh hfr
     have HR4 := lh hrd
     have HEQ4 := lh ((HEQ2.out).trans (Xae hR _))
     clear hpA hown hch hfr hrd hR
     have pc5 := (HF4.out).pc
     go_wp2_with fail
     refine (Xga (hb.trans ((HW4.out).2.2.below hB (fun x hx => (hp.mine hx).1))) hBg hg1 hg2 (HW4.out).1 (HF4.out) (HR4.out) hd0 hd50 [[93]] (by intro t ht; simp at ht; have := hs; first | (rcases ht with rfl | rfl | rfl <;> first | decide | exact hs | simp) | (rw [ht]; first | decide | exact hs) | (rw [ht]; simp)) (by simp)).mono ?_
     rintro e6 w6 hpost
     cases hR : adv T4 (argC args.tail.tail d [[93]]) with
     | none =>
       rw [hR] at hpost
       obtain ⟨rfl, hch⟩ := hpost
       have HNO := lh ((HEQ4.out).trans (Xad hR _))
       have HCH := lh ((HW4.out).fell_fr hwg hch)
       clear hR hch
       unfold boom
       go_wp2
       refine ⟨rfl, ?_⟩
       rw [HNO.out]
       exact ⟨rfl, HCH.out⟩
     | some T6 =>
       rw [hR] at hpost
       obtain ⟨rfl, u6, V6, hpA, hown, hch, hfr, hrd⟩ := hpost
       obtain ⟨A6, c6, hV, _, _, _⟩ := id hrd
       subst hV
       have HW6 := lh ((HW4.out).fr hwg hpA hown hch)
       have HF6 := lh hfr
       have HR6 := lh hrd
       have HEQ6 := lh ((HEQ4.out).trans (Xae hR _))
       clear hpA hown hch hfr hrd hR
       have c2 := (HF6.out).ex.c2
       have c3 := (HF6.out).ex.c3
       have c4 := (HF6.out).ex.c4
       have hz0 : (Xaa []).toList = [] := Xaf []
       obtain ⟨m, hm⟩ : ∃ m, m = (args.tail.tail.tail).length := ⟨_, rfl⟩
       rw [← hm] at c4
       by_cases hn : n = 0
       case neg =>
        have HNO := lh ((HEQ6.out).trans (show adv T6 (need _ (some [])) = none from by rw [Xag (fun h => hn h.1)]; rfl))
        clear hm
        go_wp2_with fail
        refine (Xah _).mono ?_
        rintro e9 w9 ⟨rfl, rfl⟩
        unfold boom
        go_wp2
        refine ⟨rfl, ?_⟩
        rw [HNO.out]
        exact ⟨rfl, (HW6.out).2.2⟩
       by_cases hs0 : s = []
       case neg =>
        have HNO := lh ((HEQ6.out).trans (show adv T6 (need _ (some [])) = none from by rw [Xag (fun h => hs0 h.2.1)]; rfl))
        subst hn
        have hs1 : ¬ (Xaa s).toList = [] := by rw [Xaf]; exact hs0
        clear hm
        clear hs0
        go_wp2_with fail
        refine (Xah _).mono ?_
        rintro e9 w9 ⟨rfl, rfl⟩
        unfold boom
        go_wp2
        refine ⟨rfl, ?_⟩
        rw [HNO.out]
        exact ⟨rfl, (HW6.out).2.2⟩
       by_cases hl0 : (args.tail.tail.tail).length = 0
       case neg =>
        have HNO := lh ((HEQ6.out).trans (show adv T6 (need _ (some [])) = none from by rw [Xag (fun h => hl0 h.2.2)]; rfl))
        subst hn
        subst hs0
        have hl1 : ((m : Int) == 0) = false := by rw [beq_eq_false_iff_ne]; omega
        clear hm
        clear hl0
        go_wp2_with fail
        refine (Xah _).mono ?_
        rintro e9 w9 ⟨rfl, rfl⟩
        unfold boom
        go_wp2
        refine ⟨rfl, ?_⟩
        rw [HNO.out]
        exact ⟨rfl, (HW6.out).2.2⟩
       have HFIN := lh ((HEQ6.out).trans (show adv T6 (need _ (some [])) = some T6 from by rw [Xai ⟨hn, hs0, hl0⟩]; exact Xbe (HW6.out).1.fit))
       subst hn
       subst hs0
       obtain rfl : m = 0 := by omega
       clear hm hl0
       go_wp2_with fail
       refine (Xaj _).mono ?_
       rintro e9 w9 ⟨rfl, rfl⟩
       go_wp2
       go_end0
       rw [HFIN.out]
       exact ⟨rfl, _, HW6.out⟩
set_option maxRecDepth 100000 in
set_option maxHeartbeats 2000000 in
theorem expr_8 {w0 w : World} {Bc Ba B : Nat} {u : Value} {T : List (List UInt8)} {p n : Int} {s : List UInt8} {r : Value} {args : List Ex} {d ch : Int} (hb : Below B w0 w) (hB : B ≤ w.heap.size) (hp : Xap w Bc Ba B u T) (hd0 : 0 ≤ d) (hd : d ≤ 24) (hc0 : 0 ≤ ch) (hr : Xbd w0 B args r) (hs : s.length ≤ 40000) :
  Calls Tryz.prog 70 #[penV Bc Ba, .agg #[.int .i64 8, .int .i64 p, .int .i64 n, .string (Xaa s), r], .int .i64 d, .int .i64 ch] w (Xal w Bc Ba B u (adv T (penE (.mk 8 p n s args) d ch))) := by
 have hmf : ∀ (fn : Fn) (first cap : Array Value) (w : World), (Instr.makeFunc fn first cap).run Tryz.prog w = .ok (.func fn first cap) w := fun _ _ _ _ => rfl
 obtain ⟨A, c, hrv, _, _, _⟩ := id hr
 subst hrv
 obtain ⟨X, hX⟩ : ∃ X : World, X = (((w.alloc (.cells #[penV Bc Ba] 49)).alloc (.cells #[.int .i64 8, .int .i64 p, .int .i64 n, .string (Xaa s), .slice A args.length c] 35)).alloc (.cells #[.int .i64 d] 3)).alloc (.cells #[.int .i64 ch] 3) := ⟨_, rfl⟩
 obtain ⟨g, hg⟩ : ∃ g, g = w.heap.size := ⟨_, rfl⟩
 obtain ⟨hf, hsz⟩ := Xcu hX hg
 have hw : Went w Bc Ba B u X u T := by rw [hX]; exact ((((Went.refl hp).alloc _).alloc _).alloc _).alloc _
 have e0 := hf.ex.c0
 have hg1 : Bc < g := by rw [hg]; exact Xab hp.cnt
 have hg2 : Ba < g := by rw [hg]; exact Xab hp.buf
 have hBg : B ≤ g := by rw [hg]; exact hB
 have hwg : w.heap.size ≤ g := by rw [hg]; exact Nat.le_refl _
 have hd50 : d ≤ 50 := by omega
 have HEQ := lh (congrArg (adv T) (penE_8 p n s args d ch hd))
 have HX := lh hX
 have HG := lh hg
 have HF := lh hf
 have HW := lh hw
 have HR := lh hr
 clear hX hg hf hw hsz hr
 unfold penV at HX ⊢
 go_enter Tryz.func70, Tryz.ntmps70
 go_wp2_with fail
 rw [← HX.out, ← HG.out]
 refine (Xaj _).mono ?_
 rintro e1 w1 ⟨rfl, rfl⟩
 have pc1 := (HF.out).pc
 go_wp2_with fail
 refine (Xaq (Went.refl (HW.out).1) (Nat.le_trans hB (HW.out).2.2.size) [[108, 101, 110], [40]] (by intro t ht; simp at ht; have := hs; first | (rcases ht with rfl | rfl | rfl <;> first | decide | exact hs | simp) | (rw [ht]; first | decide | exact hs) | (rw [ht]; simp)) (by simp)).mono ?_
 rintro e2 w2 hpost
 cases hR : adv T (some [[108, 101, 110], [40]]) with
 | none =>
   rw [hR] at hpost
   obtain ⟨rfl, hch⟩ := hpost
   have HNO := lh ((HEQ.out).trans (Xad hR _))
   have HCH := lh ((HW.out).fell hch)
   clear hR hch
   unfold boom
   go_wp2
   refine ⟨rfl, ?_⟩
   rw [HNO.out]
   exact ⟨rfl, HCH.out⟩
 | some T2 =>
   rw [hR] at hpost
   obtain ⟨rfl, u2, hwent⟩ := hpost
   have HW2 := lh ((HW.out).trans hwent)
   have HF2 := lh ((HF.out).went (HW.out).1 hg1 hg2 hwent)
   have HEQ2 := lh ((HEQ.out).trans (Xae hR _))
   clear hwent hR
   have pc3 := (HF2.out).pc
   go_wp2_with fail
   refine (Xga (hb.trans ((HW2.out).2.2.below hB (fun x hx => (hp.mine hx).1))) hBg hg1 hg2 (HW2.out).1 (HF2.out) (HR.out) hd0 hd50 [[41]] (by intro t ht; simp at ht; have := hs; first | (rcases ht with rfl | rfl | rfl <;> first | decide | exact hs | simp) | (rw [ht]; first | decide | exact hs) | (rw [ht]; simp)) (by simp)).mono ?_
   rintro e4 w4 hpost
   cases hR : adv T2 (argC args d [[41]]) with
   | none =>
     rw [hR] at hpost
     obtain ⟨rfl, hch⟩ := hpost
     have HNO := lh ((HEQ2.out).trans (Xad hR _))
     have HCH := lh ((HW2.out).fell_fr hwg hch)
     clear hR hch
     unfold boom
     go_wp2
     refine ⟨rfl, ?_⟩
     rw [HNO.out]
     exact ⟨rfl, HCH.out⟩
   | some T4 =>
     rw [hR] at hpost
     obtain ⟨rfl, u4, V4, hpA, hown, hch, hfr, hrd⟩ := hpost
     obtain ⟨A4, c4, hV, _, _, _⟩ := id hrd
     subst hV
     have HW4 := lh ((HW2.out).fr hwg hpA hown hch)
     have HF4 := lh hfr
     have HR4 := lh hrd
     have HEQ4 := lh ((HEQ2.out).trans (Xae hR _))
     clear hpA hown hch hfr hrd hR
     have c2 := (HF4.out).ex.c2
     have c3 := (HF4.out).ex.c3
     have c4 := (HF4.out).ex.c4
     have hz0 : (Xaa []).toList = [] := Xaf []
     obtain ⟨m, hm⟩ : ∃ m, m = (args.tail).length := ⟨_, rfl⟩
     rw [← hm] at c4
     by_cases hn : n = 0
     case neg =>
      have HNO := lh ((HEQ4.out).trans (show adv T4 (need _ (some [])) = none from by rw [Xag (fun h => hn h.1)]; rfl))
      clear hm
      go_wp2_with fail
      refine (Xah _).mono ?_
      rintro e9 w9 ⟨rfl, rfl⟩
      unfold boom
      go_wp2
      refine ⟨rfl, ?_⟩
      rw [HNO.out]
      exact ⟨rfl, (HW4.out).2.2⟩
     by_cases hs0 : s = []
     case neg =>
      have HNO := lh ((HEQ4.out).trans (show adv T4 (need _ (some [])) = none from by rw [Xag (fun h => hs0 h.2.1)]; rfl))
      subst hn
      have hs1 : ¬ (Xaa s).toList = [] := by rw [Xaf]; exact hs0
      clear hm
      clear hs0
      go_wp2_with fail
      refine (Xah _).mono ?_
      rintro e9 w9 ⟨rfl, rfl⟩
      unfold boom
      go_wp2
      refine ⟨rfl, ?_⟩
      rw [HNO.out]
      exact ⟨rfl, (HW4.out).2.2⟩
     by_cases hl0 : (args.tail).length = 0
     case neg =>
      have HNO := lh ((HEQ4.out).trans (show adv T4 (need _ (some [])) = none from by rw [Xag (fun h => hl0 h.2.2)]; rfl))
      subst hn
      subst hs0
      have hl1 : ((m : Int) == 0) = false := by rw [beq_eq_false_iff_ne]; omega
      clear hm
      clear hl0
      go_wp2_with fail
      refine (Xah _).mono ?_
      rintro e9 w9 ⟨rfl, rfl⟩
      unfold boom
      go_wp2
      refine ⟨rfl, ?_⟩
      rw [HNO.out]
      exact ⟨rfl, (HW4.out).2.2⟩
     have HFIN := lh ((HEQ4.out).trans (show adv T4 (need _ (some [])) = some T4 from by rw [Xai ⟨hn, hs0, hl0⟩]; exact Xbe (HW4.out).1.fit))
     subst hn
     subst hs0
     obtain rfl : m = 0 := by omega
     clear hm hl0
     go_wp2_with fail
     refine (Xaj _).mono ?_
     rintro e9 w9 ⟨rfl, rfl⟩
     go_wp2
     go_end0
     rw [HFIN.out]
     exact ⟨rfl, _, HW4.out⟩
set_option maxRecDepth 100000 in
set_option maxHeartbeats 2000000 in
theorem expr_12 {w0 w : World} {Bc Ba B : Nat} {u : Value} {T : List (List UInt8)} {p n : Int} {s : List UInt8} {r : Value} {args : List Ex} {d ch : Int} (hb : Below B w0 w) (hB : B ≤ w.heap.size) (hp : Xap w Bc Ba B u T) (hd0 : 0 ≤ d) (hd : d ≤ 24) (hc0 : 0 ≤ ch) (hr : Xbd w0 B args r) (hs : s.length ≤ 40000) :
  Calls Tryz.prog 70 #[penV Bc Ba, .agg #[.int .i64 12, .int .i64 p, .int .i64 n, .string (Xaa s), r], .int .i64 d, .int .i64 ch] w (Xal w Bc Ba B u (adv T (penE (.mk 12 p n s args) d ch))) := by
 have hmf : ∀ (fn : Fn) (first cap : Array Value) (w : World), (Instr.makeFunc fn first cap).run Tryz.prog w = .ok (.func fn first cap) w := fun _ _ _ _ => rfl
 obtain ⟨A, c, hrv, _, _, _⟩ := id hr
 subst hrv
 obtain ⟨X, hX⟩ : ∃ X : World, X = (((w.alloc (.cells #[penV Bc Ba] 49)).alloc (.cells #[.int .i64 12, .int .i64 p, .int .i64 n, .string (Xaa s), .slice A args.length c] 35)).alloc (.cells #[.int .i64 d] 3)).alloc (.cells #[.int .i64 ch] 3) := ⟨_, rfl⟩
 obtain ⟨g, hg⟩ : ∃ g, g = w.heap.size := ⟨_, rfl⟩
 obtain ⟨hf, hsz⟩ := Xcu hX hg
 have hw : Went w Bc Ba B u X u T := by rw [hX]; exact ((((Went.refl hp).alloc _).alloc _).alloc _).alloc _
 have e0 := hf.ex.c0
 have hg1 : Bc < g := by rw [hg]; exact Xab hp.cnt
 have hg2 : Ba < g := by rw [hg]; exact Xab hp.buf
 have hBg : B ≤ g := by rw [hg]; exact hB
 have hwg : w.heap.size ≤ g := by rw [hg]; exact Nat.le_refl _
 have hd50 : d ≤ 50 := by omega
 have HEQ := lh (congrArg (adv T) (penE_12 p n s args d ch hd))
 have HX := lh hX
 have HG := lh hg
 have HF := lh hf
 have HW := lh hw
 have HR := lh hr
 clear hX hg hf hw hsz hr
 unfold penV at HX ⊢
 go_enter Tryz.func70, Tryz.ntmps70
 go_wp2_with fail
 rw [← HX.out, ← HG.out]
 refine (Xaj _).mono ?_
 rintro e1 w1 ⟨rfl, rfl⟩
 have pc1 := (HF.out).pc
 go_wp2_with fail
 refine (Xaq (Went.refl (HW.out).1) (Nat.le_trans hB (HW.out).2.2.size) [[109, 97, 107, 101], [40]] (by intro t ht; simp at ht; have := hs; first | (rcases ht with rfl | rfl | rfl <;> first | decide | exact hs | simp) | (rw [ht]; first | decide | exact hs) | (rw [ht]; simp)) (by simp)).mono ?_
 rintro e2 w2 hpost
 cases hR : adv T (some [[109, 97, 107, 101], [40]]) with
 | none =>
   rw [hR] at hpost
   obtain ⟨rfl, hch⟩ := hpost
   have HNO := lh ((HEQ.out).trans (Xad hR _))
   have HCH := lh ((HW.out).fell hch)
   clear hR hch
   unfold boom
   go_wp2
   refine ⟨rfl, ?_⟩
   rw [HNO.out]
   exact ⟨rfl, HCH.out⟩
 | some T2 =>
   rw [hR] at hpost
   obtain ⟨rfl, u2, hwent⟩ := hpost
   have HW2 := lh ((HW.out).trans hwent)
   have HF2 := lh ((HF.out).went (HW.out).1 hg1 hg2 hwent)
   have HEQ2 := lh ((HEQ.out).trans (Xae hR _))
   clear hwent hR
   have pc3 := (HF2.out).pc
   go_wp2_with fail
   refine (Xga (hb.trans ((HW2.out).2.2.below hB (fun x hx => (hp.mine hx).1))) hBg hg1 hg2 (HW2.out).1 (HF2.out) (HR.out) hd0 hd50 [[41]] (by intro t ht; simp at ht; have := hs; first | (rcases ht with rfl | rfl | rfl <;> first | decide | exact hs | simp) | (rw [ht]; first | decide | exact hs) | (rw [ht]; simp)) (by simp)).mono ?_
   rintro e4 w4 hpost
   cases hR : adv T2 (argC args d [[41]]) with
   | none =>
     rw [hR] at hpost
     obtain ⟨rfl, hch⟩ := hpost
     have HNO := lh ((HEQ2.out).trans (Xad hR _))
     have HCH := lh ((HW2.out).fell_fr hwg hch)
     clear hR hch
     unfold boom
     go_wp2
     refine ⟨rfl, ?_⟩
     rw [HNO.out]
     exact ⟨rfl, HCH.out⟩
   | some T4 =>
     rw [hR] at hpost
     obtain ⟨rfl, u4, V4, hpA, hown, hch, hfr, hrd⟩ := hpost
     obtain ⟨A4, c4, hV, _, _, _⟩ := id hrd
     subst hV
     have HW4 := lh ((HW2.out).fr hwg hpA hown hch)
     have HF4 := lh hfr
     have HR4 := lh hrd
     have HEQ4 := lh ((HEQ2.out).trans (Xae hR _))
     clear hpA hown hch hfr hrd hR
     have c2 := (HF4.out).ex.c2
     have c3 := (HF4.out).ex.c3
     have c4 := (HF4.out).ex.c4
     have hz0 : (Xaa []).toList = [] := Xaf []
     obtain ⟨m, hm⟩ : ∃ m, m = (args.tail).length := ⟨_, rfl⟩
     rw [← hm] at c4
     by_cases hn : n = 0
     case neg =>
      have HNO := lh ((HEQ4.out).trans (show adv T4 (need _ (some [])) = none from by rw [Xag (fun h => hn h.1)]; rfl))
      clear hm
      go_wp2_with fail
      refine (Xah _).mono ?_
      rintro e9 w9 ⟨rfl, rfl⟩
      unfold boom
      go_wp2
      refine ⟨rfl, ?_⟩
      rw [HNO.out]
      exact ⟨rfl, (HW4.out).2.2⟩
     by_cases hs0 : s = []
     case neg =>
      have HNO := lh ((HEQ4.out).trans (show adv T4 (need _ (some [])) = none from by rw [Xag (fun h => hs0 h.2.1)]; rfl))
      subst hn
      have hs1 : ¬ (Xaa s).toList = [] := by rw [Xaf]; exact hs0
      clear hm
      clear hs0
      go_wp2_with fail
      refine (Xah _).mono ?_
      rintro e9 w9 ⟨rfl, rfl⟩
      unfold boom
      go_wp2
      refine ⟨rfl, ?_⟩
      rw [HNO.out]
      exact ⟨rfl, (HW4.out).2.2⟩
     by_cases hl0 : (args.tail).length = 0
     case neg =>
      have HNO := lh ((HEQ4.out).trans (show adv T4 (need _ (some [])) = none from by rw [Xag (fun h => hl0 h.2.2)]; rfl))
      subst hn
      subst hs0
      have hl1 : ((m : Int) == 0) = false := by rw [beq_eq_false_iff_ne]; omega
      clear hm
      clear hl0
      go_wp2_with fail
      refine (Xah _).mono ?_
      rintro e9 w9 ⟨rfl, rfl⟩
      unfold boom
      go_wp2
      refine ⟨rfl, ?_⟩
      rw [HNO.out]
      exact ⟨rfl, (HW4.out).2.2⟩
     have HFIN := lh ((HEQ4.out).trans (show adv T4 (need _ (some [])) = some T4 from by rw [Xai ⟨hn, hs0, hl0⟩]; exact Xbe (HW4.out).1.fit))
     subst hn
     subst hs0
     obtain rfl : m = 0 := by omega
     clear hm hl0
     go_wp2_with fail
     refine (Xaj _).mono ?_
     rintro e9 w9 ⟨rfl, rfl⟩
     go_wp2
     go_end0
     rw [HFIN.out]
     exact ⟨rfl, _, HW4.out⟩
end Go.Proofs.YtodociiaobjfgaaGreatDoor
