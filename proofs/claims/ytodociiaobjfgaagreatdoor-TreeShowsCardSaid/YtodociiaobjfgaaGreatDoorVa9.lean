/- Vw -/
import Derived.Test.YtodociiaobjfgaaGreatDoorVb0
set_option linter.unusedVariables false
set_option linter.unusedSimpArgs false
namespace Go.Proofs.YtodociiaobjfgaaGreatDoor
open Go.RowKit
set_option maxRecDepth 100000 in
set_option maxHeartbeats 2000000 in
theorem Xov {w0 w : World} {Bc Ba B : Nat} {u : Value} {T : List (List UInt8)} {p n : Int} {s : List UInt8} {r : Value} {args : List Ex} {d ch : Int} (hb : Below B w0 w) (hB : B ≤ w.heap.size) (hp : Xap w Bc Ba B u T) (hd0 : 0 ≤ d) (hd : d ≤ 24) (hc0 : 0 ≤ ch) (hr : Xbd w0 B args r) (hs : s.length ≤ 40000) (hq : s ∈ opsL) :
  Calls Tryz.prog 70 #[penV Bc Ba, .agg #[.int .i64 10, .int .i64 p, .int .i64 n, .string (Xaa s), r], .int .i64 d, .int .i64 ch] w (Xal w Bc Ba B u (adv T (penE (.mk 10 p n s args) d ch))) := by
 have hmf : ∀ (fn : Fn) (first cap : Array Value) (w : World), (Instr.makeFunc fn first cap).run Tryz.prog w = .ok (.func fn first cap) w := fun _ _ _ _ => rfl
 obtain ⟨A, c, hrv, _, _, _⟩ := id hr
 subst hrv
 obtain ⟨X, hX⟩ : ∃ X : World, X = (((w.alloc (.cells #[penV Bc Ba] 49)).alloc (.cells #[.int .i64 10, .int .i64 p, .int .i64 n, .string (Xaa s), .slice A args.length c] 35)).alloc (.cells #[.int .i64 d] 3)).alloc (.cells #[.int .i64 ch] 3) := ⟨_, rfl⟩
 obtain ⟨g, hg⟩ : ∃ g, g = w.heap.size := ⟨_, rfl⟩
 obtain ⟨hf, hsz⟩ := Xcu hX hg
 have hw : Went w Bc Ba B u X u T := by rw [hX]; exact ((((Went.refl hp).alloc _).alloc _).alloc _).alloc _
 have e0 := hf.ex.c0
 have hg1 : Bc < g := by rw [hg]; exact Xab hp.cnt
 have hg2 : Ba < g := by rw [hg]; exact Xab hp.buf
 have hBg : B ≤ g := by rw [hg]; exact hB
 have hwg : w.heap.size ≤ g := by rw [hg]; exact Nat.le_refl _
 have hd50 : d ≤ 50 := by omega
 have HEQ := lh (congrArg (adv T) ((Xvj p n s args d ch hd).trans (congrArg (cat (some [[40]])) (Xaw hq _))))
 have HX := lh hX
 have HG := lh hg
 have HF := lh hf
 have HW := lh hw
 have HR := lh hr
 clear hX hg hf hw hsz hr
 unfold penV at HX ⊢
 go_enter Tryz.func70, Tryz.ntmps70
 go_wp2_with fail
 rw [← HX.out, ← HG.out]
 refine (Xaj _).mono ?_
 rintro e1 w1 ⟨rfl, rfl⟩
 have pc1 := (HF.out).pc
 go_wp2_with fail
 refine (Xaq (Went.refl (HW.out).1) (Nat.le_trans hB (HW.out).2.2.size) [[40]] (by intro t ht; simp at ht; have := hs; first | (rcases ht with rfl | rfl | rfl <;> first | decide | exact hs | simp) | (rw [ht]; first | decide | exact hs) | (rw [ht]; simp)) (by simp)).mono ?_
 rintro e2 w2 hpost
 cases hR : adv T (some [[40]]) with
 | none =>
   rw [hR] at hpost
   obtain ⟨rfl, hch⟩ := hpost
   have HNO := lh ((HEQ.out).trans (Xad hR _))
   have HCH := lh ((HW.out).fell hch)
   clear hR hch
   unfold boom
   go_wp2
   refine ⟨rfl, ?_⟩
   rw [HNO.out]
   exact ⟨rfl, HCH.out⟩
 | some T2 =>
   rw [hR] at hpost
   obtain ⟨rfl, u2, hwent⟩ := hpost
   have HW2 := lh ((HW.out).trans hwent)
   have HF2 := lh ((HF.out).went (HW.out).1 hg1 hg2 hwent)
   have HEQ2 := lh ((HEQ.out).trans (Xae hR _))
   clear hwent hR
   have pc3 := (HF2.out).pc
   go_wp2_with fail
   refine (Xjb (HF2.out) opsL (by decide)).mono ?_
   rintro e4 w4 hsg
   obtain ⟨rfl, hch, hfr⟩ := hsg.1 hq
   clear hsg
   have HW4 := lh ((HW2.out).loc (w2 := w4) (hch) (Nat.le_succ_of_le hwg) ((HF2.out).nm (HW2.out).1 hg1 hg2 (.inr (.inl rfl))))
   have HF4 : Hid (ExFr w4 g Bc Ba 10 p n [] _ d ch) := lh (hfr)
   clear hch hfr
   have pc5 := (HF4.out).pc
   go_wp2_with fail
   refine (Xga (hb.trans ((HW4.out).2.2.below hB (fun x hx => (hp.mine hx).1))) hBg hg1 hg2 (HW4.out).1 (HF4.out) (HR.out) hd0 hd50 [s] (by intro t ht; simp at ht; have := hs; first | (rcases ht with rfl | rfl | rfl <;> first | decide | exact hs | simp) | (rw [ht]; first | decide | exact hs) | (rw [ht]; simp)) (by simp)).mono ?_
   rintro e6 w6 hpost
   cases hR : adv T2 (argC args d [s]) with
   | none =>
     rw [hR] at hpost
     obtain ⟨rfl, hch⟩ := hpost
     have HNO := lh ((HEQ2.out).trans (Xad hR _))
     have HCH := lh ((HW4.out).fell_fr hwg hch)
     clear hR hch
     unfold boom
     go_wp2
     refine ⟨rfl, ?_⟩
     rw [HNO.out]
     exact ⟨rfl, HCH.out⟩
   | some T6 =>
     rw [hR] at hpost
     obtain ⟨rfl, u6, V6, hpA, hown, hch, hfr, hrd⟩ := hpost
     obtain ⟨A6, c6, hV, _, _, _⟩ := id hrd
     subst hV
     have HW6 := lh ((HW4.out).fr hwg hpA hown hch)
     have HF6 := lh hfr
     have HR6 := lh hrd
     have HEQ6 := lh ((HEQ2.out).trans (Xae hR _))
     clear hpA hown hch hfr hrd hR
     have pc7 := (HF6.out).pc
     go_wp2_with fail
     refine (Xga (hb.trans ((HW6.out).2.2.below hB (fun x hx => (hp.mine hx).1))) hBg hg1 hg2 (HW6.out).1 (HF6.out) (HR6.out) hd0 hd50 [[41]] (by intro t ht; simp at ht; have := hs; first | (rcases ht with rfl | rfl | rfl <;> first | decide | exact hs | simp) | (rw [ht]; first | decide | exact hs) | (rw [ht]; simp)) (by simp)).mono ?_
     rintro e8 w8 hpost
     cases hR : adv T6 (argC args.tail d [[41]]) with
     | none =>
       rw [hR] at hpost
       obtain ⟨rfl, hch⟩ := hpost
       have HNO := lh ((HEQ6.out).trans (Xad hR _))
       have HCH := lh ((HW6.out).fell_fr hwg hch)
       clear hR hch
       unfold boom
       go_wp2
       refine ⟨rfl, ?_⟩
       rw [HNO.out]
       exact ⟨rfl, HCH.out⟩
     | some T8 =>
       rw [hR] at hpost
       obtain ⟨rfl, u8, V8, hpA, hown, hch, hfr, hrd⟩ := hpost
       obtain ⟨A8, c8, hV, _, _, _⟩ := id hrd
       subst hV
       have HW8 := lh ((HW6.out).fr hwg hpA hown hch)
       have HF8 := lh hfr
       have HR8 := lh hrd
       have HEQ8 := lh ((HEQ6.out).trans (Xae hR _))
       clear hpA hown hch hfr hrd hR
       have c2 := (HF8.out).ex.c2
       have c3 := (HF8.out).ex.c3
       have c4 := (HF8.out).ex.c4
       have hz0 : (Xaa []).toList = [] := Xaf []
       obtain ⟨m, hm⟩ : ∃ m, m = (args.tail.tail).length := ⟨_, rfl⟩
       rw [← hm] at c4
       by_cases hn : n = 0
       case neg =>
        have HNO := lh ((HEQ8.out).trans (show adv T8 (need _ (some [])) = none from by rw [Xag (fun h => hn h.1)]; rfl))
        clear hm
        go_wp2_with fail
        refine (Xah _).mono ?_
        rintro e9 w9 ⟨rfl, rfl⟩
        unfold boom
        go_wp2
        refine ⟨rfl, ?_⟩
        rw [HNO.out]
        exact ⟨rfl, (HW8.out).2.2⟩
       by_cases hl0 : (args.tail.tail).length = 0
       case neg =>
        have HNO := lh ((HEQ8.out).trans (show adv T8 (need _ (some [])) = none from by rw [Xag (fun h => hl0 h.2)]; rfl))
        subst hn
        have hl1 : ((m : Int) == 0) = false := by rw [beq_eq_false_iff_ne]; omega
        clear hm
        clear hl0
        go_wp2_with fail
        refine (Xah _).mono ?_
        rintro e9 w9 ⟨rfl, rfl⟩
        unfold boom
        go_wp2
        refine ⟨rfl, ?_⟩
        rw [HNO.out]
        exact ⟨rfl, (HW8.out).2.2⟩
       have HFIN := lh ((HEQ8.out).trans (show adv T8 (need _ (some [])) = some T8 from by rw [Xai ⟨hn, hl0⟩]; exact Xbe (HW8.out).1.fit))
       subst hn
       obtain rfl : m = 0 := by omega
       clear hm hl0
       go_wp2_with fail
       refine (Xaj _).mono ?_
       rintro e9 w9 ⟨rfl, rfl⟩
       go_wp2
       go_end0
       rw [HFIN.out]
       exact ⟨rfl, _, HW8.out⟩
set_option maxRecDepth 100000 in
set_option maxHeartbeats 2000000 in
theorem Xrs {w0 w : World} {Bc Ba B : Nat} {u : Value} {T : List (List UInt8)} {p n : Int} {s : List UInt8} {r : Value} {args : List Ex} {d ch : Int} (hb : Below B w0 w) (hB : B ≤ w.heap.size) (hp : Xap w Bc Ba B u T) (hd0 : 0 ≤ d) (hd : d ≤ 24) (hc0 : 0 ≤ ch) (hr : Xbd w0 B args r) (hs : s.length ≤ 40000) (hq : ¬ s ∈ opsL) :
  Calls Tryz.prog 70 #[penV Bc Ba, .agg #[.int .i64 10, .int .i64 p, .int .i64 n, .string (Xaa s), r], .int .i64 d, .int .i64 ch] w (Xal w Bc Ba B u (adv T (penE (.mk 10 p n s args) d ch))) := by
 have hmf : ∀ (fn : Fn) (first cap : Array Value) (w : World), (Instr.makeFunc fn first cap).run Tryz.prog w = .ok (.func fn first cap) w := fun _ _ _ _ => rfl
 obtain ⟨A, c, hrv, _, _, _⟩ := id hr
 subst hrv
 obtain ⟨X, hX⟩ : ∃ X : World, X = (((w.alloc (.cells #[penV Bc Ba] 49)).alloc (.cells #[.int .i64 10, .int .i64 p, .int .i64 n, .string (Xaa s), .slice A args.length c] 35)).alloc (.cells #[.int .i64 d] 3)).alloc (.cells #[.int .i64 ch] 3) := ⟨_, rfl⟩
 obtain ⟨g, hg⟩ : ∃ g, g = w.heap.size := ⟨_, rfl⟩
 obtain ⟨hf, hsz⟩ := Xcu hX hg
 have hw : Went w Bc Ba B u X u T := by rw [hX]; exact ((((Went.refl hp).alloc _).alloc _).alloc _).alloc _
 have e0 := hf.ex.c0
 have hg1 : Bc < g := by rw [hg]; exact Xab hp.cnt
 have hg2 : Ba < g := by rw [hg]; exact Xab hp.buf
 have hBg : B ≤ g := by rw [hg]; exact hB
 have hwg : w.heap.size ≤ g := by rw [hg]; exact Nat.le_refl _
 have hd50 : d ≤ 50 := by omega
 have HEQ := lh (congrArg (adv T) ((Xvj p n s args d ch hd).trans (congrArg (cat (some [[40]])) (Xaz hq _))))
 have HX := lh hX
 have HG := lh hg
 have HF := lh hf
 have HW := lh hw
 have HR := lh hr
 clear hX hg hf hw hsz hr
 unfold penV at HX ⊢
 go_enter Tryz.func70, Tryz.ntmps70
 go_wp2_with fail
 rw [← HX.out, ← HG.out]
 refine (Xaj _).mono ?_
 rintro e1 w1 ⟨rfl, rfl⟩
 have pc1 := (HF.out).pc
 go_wp2_with fail
 refine (Xaq (Went.refl (HW.out).1) (Nat.le_trans hB (HW.out).2.2.size) [[40]] (by intro t ht; simp at ht; have := hs; first | (rcases ht with rfl | rfl | rfl <;> first | decide | exact hs | simp) | (rw [ht]; first | decide | exact hs) | (rw [ht]; simp)) (by simp)).mono ?_
 rintro e2 w2 hpost
 cases hR : adv T (some [[40]]) with
 | none =>
   rw [hR] at hpost
   obtain ⟨rfl, hch⟩ := hpost
   have HNO := lh ((HEQ.out).trans (Xad hR _))
   have HCH := lh ((HW.out).fell hch)
   clear hR hch
   unfold boom
   go_wp2
   refine ⟨rfl, ?_⟩
   rw [HNO.out]
   exact ⟨rfl, HCH.out⟩
 | some T2 =>
   rw [hR] at hpost
   obtain ⟨rfl, u2, hwent⟩ := hpost
   have HW2 := lh ((HW.out).trans hwent)
   have HF2 := lh ((HF.out).went (HW.out).1 hg1 hg2 hwent)
   have HEQ2 := lh ((HEQ.out).trans (Xae hR _))
   clear hwent hR
   have pc3 := (HF2.out).pc
   go_wp2_with fail
   refine (Xjb (HF2.out) opsL (by decide)).mono ?_
   rintro e4 w4 hsg
   obtain ⟨rfl, hbl⟩ := hsg.2 hq
   clear hsg
   have HNO := lh ((HEQ2.out).trans (Xqd _))
   have HCH := lh ((HW2.out).2.2.trans (Chg.of_below (P := fun _ => False) hbl) (fun _ _ e => e.elim))
   unfold boom
   go_wp2
   refine ⟨rfl, ?_⟩
   rw [HNO.out]
   exact ⟨rfl, HCH.out⟩
set_option maxRecDepth 100000 in
set_option maxHeartbeats 2000000 in
theorem Xur {w0 w : World} {Bc Ba B : Nat} {u : Value} {T : List (List UInt8)} {p n : Int} {s : List UInt8} {r : Value} {args : List Ex} {d ch : Int} (hb : Below B w0 w) (hB : B ≤ w.heap.size) (hp : Xap w Bc Ba B u T) (hd0 : 0 ≤ d) (hd : d ≤ 24) (hc0 : 0 ≤ ch) (hr : Xbd w0 B args r) (hs : s.length ≤ 40000) {k : Int} (hk : k < 1 ∨ 13 < k) :
  Calls Tryz.prog 70 #[penV Bc Ba, .agg #[.int .i64 k, .int .i64 p, .int .i64 n, .string (Xaa s), r], .int .i64 d, .int .i64 ch] w (Xal w Bc Ba B u (adv T (penE (.mk k p n s args) d ch))) := by
 have e1k : (k == 1) = false := by rw [beq_eq_false_iff_ne]; omega
 have e2k : (k == 2) = false := by rw [beq_eq_false_iff_ne]; omega
 have e3k : (k == 3) = false := by rw [beq_eq_false_iff_ne]; omega
 have e4k : (k == 4) = false := by rw [beq_eq_false_iff_ne]; omega
 have e5k : (k == 5) = false := by rw [beq_eq_false_iff_ne]; omega
 have e6k : (k == 6) = false := by rw [beq_eq_false_iff_ne]; omega
 have e7k : (k == 7) = false := by rw [beq_eq_false_iff_ne]; omega
 have e8k : (k == 8) = false := by rw [beq_eq_false_iff_ne]; omega
 have e9k : (k == 9) = false := by rw [beq_eq_false_iff_ne]; omega
 have e10k : (k == 10) = false := by rw [beq_eq_false_iff_ne]; omega
 have e11k : (k == 11) = false := by rw [beq_eq_false_iff_ne]; omega
 have e12k : (k == 12) = false := by rw [beq_eq_false_iff_ne]; omega
 have e13k : (k == 13) = false := by rw [beq_eq_false_iff_ne]; omega
 have hmf : ∀ (fn : Fn) (first cap : Array Value) (w : World), (Instr.makeFunc fn first cap).run Tryz.prog w = .ok (.func fn first cap) w := fun _ _ _ _ => rfl
 obtain ⟨A, c, hrv, _, _, _⟩ := id hr
 subst hrv
 obtain ⟨X, hX⟩ : ∃ X : World, X = (((w.alloc (.cells #[penV Bc Ba] 49)).alloc (.cells #[.int .i64 k, .int .i64 p, .int .i64 n, .string (Xaa s), .slice A args.length c] 35)).alloc (.cells #[.int .i64 d] 3)).alloc (.cells #[.int .i64 ch] 3) := ⟨_, rfl⟩
 obtain ⟨g, hg⟩ : ∃ g, g = w.heap.size := ⟨_, rfl⟩
 obtain ⟨hf, hsz⟩ := Xcu hX hg
 have hw : Went w Bc Ba B u X u T := by rw [hX]; exact ((((Went.refl hp).alloc _).alloc _).alloc _).alloc _
 have e0 := hf.ex.c0
 have hg1 : Bc < g := by rw [hg]; exact Xab hp.cnt
 have hg2 : Ba < g := by rw [hg]; exact Xab hp.buf
 have hBg : B ≤ g := by rw [hg]; exact hB
 have hwg : w.heap.size ≤ g := by rw [hg]; exact Nat.le_refl _
 have hd50 : d ≤ 50 := by omega
 have HEQ := lh (congrArg (adv T) (Xvn p n s args d ch k hk))
 have HX := lh hX
 have HG := lh hg
 have HF := lh hf
 have HW := lh hw
 have HR := lh hr
 clear hX hg hf hw hsz hr
 unfold penV at HX ⊢
 go_enter Tryz.func70, Tryz.ntmps70
 go_wp2_with fail
 rw [← HX.out, ← HG.out]
 refine (Xaj _).mono ?_
 rintro e1 w1 ⟨rfl, rfl⟩
 clear hk
 have pc1 := (HF.out).pc
 go_wp2_with fail
 have HNO := HEQ
 refine (Xah _).mono ?_
 rintro e2 w2 ⟨rfl, rfl⟩
 have HCH := lh ((HW.out).2.2)
 unfold boom
 go_wp2
 refine ⟨rfl, ?_⟩
 rw [HNO.out]
 exact ⟨rfl, HCH.out⟩
set_option maxRecDepth 100000 in
set_option maxHeartbeats 2000000 in
theorem Xuq {w0 w : World} {Bc Ba B : Nat} {u : Value} {T : List (List UInt8)} {p n : Int} {s : List UInt8} {r : Value} {args : List Ex} {d ch : Int} (hb : Below B w0 w) (hB : B ≤ w.heap.size) (hp : Xap w Bc Ba B u T) (hd0 : 0 ≤ d) (hd : ¬ d ≤ 24) (hd9 : d ≤ 100) (hc0 : 0 ≤ ch) (hr : Xbd w0 B args r) (hs : s.length ≤ 40000) {k : Int} :
  Calls Tryz.prog 70 #[penV Bc Ba, .agg #[.int .i64 k, .int .i64 p, .int .i64 n, .string (Xaa s), r], .int .i64 d, .int .i64 ch] w (Xal w Bc Ba B u (adv T (penE (.mk k p n s args) d ch))) := by
 have hmf : ∀ (fn : Fn) (first cap : Array Value) (w : World), (Instr.makeFunc fn first cap).run Tryz.prog w = .ok (.func fn first cap) w := fun _ _ _ _ => rfl
 obtain ⟨A, c, hrv, _, _, _⟩ := id hr
 subst hrv
 obtain ⟨X, hX⟩ : ∃ X : World, X = (((w.alloc (.cells #[penV Bc Ba] 49)).alloc (.cells #[.int .i64 k, .int .i64 p, .int .i64 n, .string (Xaa s), .slice A args.length c] 35)).alloc (.cells #[.int .i64 d] 3)).alloc (.cells #[.int .i64 ch] 3) := ⟨_, rfl⟩
 obtain ⟨g, hg⟩ : ∃ g, g = w.heap.size := ⟨_, rfl⟩
 obtain ⟨hf, hsz⟩ := Xcu hX hg
 have hw : Went w Bc Ba B u X u T := by rw [hX]; exact ((((Went.refl hp).alloc _).alloc _).alloc _).alloc _
 have e0 := hf.ex.c0
 have hg1 : Bc < g := by rw [hg]; exact Xab hp.cnt
 have hg2 : Ba < g := by rw [hg]; exact Xab hp.buf
 have hBg : B ≤ g := by rw [hg]; exact hB
 have hwg : w.heap.size ≤ g := by rw [hg]; exact Nat.le_refl _
 have HEQ := lh (congrArg (adv T) (Xvm p n s args d ch k hd))
 have HX := lh hX
 have HG := lh hg
 have HF := lh hf
 have HW := lh hw
 have HR := lh hr
 clear hX hg hf hw hsz hr
 unfold penV at HX ⊢
 go_enter Tryz.func70, Tryz.ntmps70
 go_wp2_with fail
 rw [← HX.out, ← HG.out]
 have HNO := HEQ
 refine (Xah _).mono ?_
 rintro e2 w2 ⟨rfl, rfl⟩
 have HCH := lh HW.out.2.2
 unfold boom
 go_wp2
 refine ⟨rfl, ?_⟩
 rw [HNO.out]
 exact ⟨rfl, HCH.out⟩
end Go.Proofs.YtodociiaobjfgaaGreatDoor
