/- Wl -/
import Derived.Test.YtodociiaobjfgaaGreatDoorVb9
set_option linter.unusedVariables false
set_option linter.unusedSimpArgs false
namespace Go.Proofs.YtodociiaobjfgaaGreatDoor
open Go.RowKit
set_option maxRecDepth 100000 in
set_option maxHeartbeats 4000000 in
theorem Xtc {w0 w : World} {Bc Ba B : Nat} {u : Value} {T : List (List UInt8)} {p : Int} {nm ty : List UInt8} {V bv ev : Value} {ex : List Ex} {bd el : List Sm} {d : Int} (hb : Below B w0 w) (hB : B ≤ w.heap.size) (hp : Xap w Bc Ba B u T) (hd0 : 0 ≤ d) (hd : d ≤ 24) (hr : Xbd w0 B ex V) (hnl : nm.length ≤ 40000) (htl : ty.length ≤ 40000)
  (hbd : Xao w0 B bd bv) (hel : Xao w0 B el ev) (hbs : ∃ A c, bv = .slice A bd.length c) (hes : ∃ A c, ev = .slice A el.length c) (hgt : 0 < ex.length) (hq : Xfp ex) :
  Calls Tryz.prog 58 #[penV Bc Ba, .agg #[.int .i64 2, .int .i64 p, .string (Xaa nm), .string (Xaa ty), V, bv, ev], .int .i64 d] w (Xal w Bc Ba B u (adv T (penS (.mk 2 p nm ty ex bd el) d))) := by
 have hmf : ∀ (fn : Fn) (first cap : Array Value) (w : World), (Instr.makeFunc fn first cap).run Tryz.prog w = .ok (.func fn first cap) w := fun _ _ _ _ => rfl
 obtain ⟨A, c, hrv, _, _, hall⟩ := id hr
 subst hrv
 obtain ⟨b, off, A5, n5, c5, rfl, hbB, _, r0, r1, r2, r3, r4, _⟩ := hall 0 hgt
 have up : ∀ {i : Nat} {v : Value}, w0.cell? ⟨b, i, none⟩ = some v → ∀ o1 o2 o3, (((w.alloc o1).alloc o2).alloc o3).cell? ⟨b, i, none⟩ = some v := fun h o1 o2 o3 => Xbr (Xbr (Xbr ((hb.cell hbB).trans h) o1) o2) o3
 rw [Nat.zero_mul, Nat.add_zero] at r0 r1 r2 r3 r4
 have r0 := up r0
 have r1 := up r1
 have r2 := up r2
 have r3 := up r3
 have r4 := up r4
 have hpl : Xfp ex ↔ (ex[0].kind = 4 ∨ ex[0].kind = 5 ∨ ex[0].kind = 6) := by
  cases ex with
  | nil => exact absurd hgt (by simp)
  | cons a r => exact Iff.rfl
 obtain ⟨E, hE⟩ : ∃ E, E = ex[0] := ⟨_, rfl⟩
 rw [← hE] at r0 r1 r2 r3 hpl
 clear up hall hE
 obtain ⟨Ab, cb, hbv⟩ := hbs
 subst hbv
 obtain ⟨Ae, ce, hev⟩ := hes
 subst hev
 obtain ⟨X, hX⟩ : ∃ X : World, X = ((w.alloc (.cells #[penV Bc Ba] 49)).alloc (.cells #[.int .i64 2, .int .i64 p, .string (Xaa nm), .string (Xaa ty), .slice (some ⟨b, off, none⟩) ex.length c, .slice Ab bd.length cb, .slice Ae el.length ce] 38)).alloc (.cells #[.int .i64 d] 3) := ⟨_, rfl⟩
 obtain ⟨g, hg⟩ : ∃ g, g = w.heap.size := ⟨_, rfl⟩
 obtain ⟨hf, hsz⟩ := Xct hX hg
 have hw : Went w Bc Ba B u X u T := by rw [hX]; exact (((Went.refl hp).alloc _).alloc _).alloc _
 have e0 := hf.sm.c0
 have hg1 : Bc < g := by rw [hg]; exact Xab hp.cnt
 have hg2 : Ba < g := by rw [hg]; exact Xab hp.buf
 have hBg : B ≤ g := by rw [hg]; exact hB
 have hwg : w.heap.size ≤ g := by rw [hg]; exact Nat.le_refl _
 have hd50 : d ≤ 50 := by omega
 have HEQ := lh (congrArg (adv T) ((Xvt p nm ty ex bd el d).trans (Xaw hq _)))
 have HXS : Hid (g + 1 + 1 + 1 = X.heap.size) := lh (by rw [hsz])
 have HX := lh hX
 have HG := lh hg
 have HF := lh hf
 have HW := lh hw
 have HR := lh hr
 clear hX hg hf hw hsz hr
 unfold penV at HX ⊢
 go_enter Tryz.func58, Tryz.ntmps58
 have pc1 := (HF.out).pc
 have dc1 := (HF.out).dc
 go_wp2_with fail
 rw [← HX.out, ← HG.out]
 refine (Xnt E.kind E.pl E.num (Xaa E.name) (A5) n5 c5 X true (by rw [eq_comm, decide_eq_true_eq]; exact hpl.1 hq)).mono ?_
 rintro e2 w2 ⟨rfl, hbl⟩
 have HW2 := lh ((HW.out).below hbl)
 have HF2 := lh ((HF.out).below hbl)
 clear hbl r0 r1 r2 r3 r4 hpl
 have pc3 := (HF2.out).pc
 have dc3 := (HF2.out).dc
 go_wp2_with fail
 refine (Xaj _).mono ?_
 rintro e8 w8 ⟨rfl, rfl⟩
 have pc4 := (HF2.out).pc
 have dc4 := (HF2.out).dc
 go_wp2_with fail
 refine (Xaq (Went.refl (HW2.out).1) (Nat.le_trans hB (HW2.out).2.2.size) [Xbf 2] (by intro t ht; simp at ht; have := hnl; have := htl; first | (rcases ht with rfl | rfl | rfl | rfl <;> first | decide | assumption | simp) | (rcases ht with rfl | rfl | rfl <;> first | decide | assumption | simp) | (rcases ht with rfl | rfl <;> first | decide | assumption | simp) | (rw [ht]; first | decide | assumption) | (rw [ht]; simp)) (by simp)).mono ?_
 rintro e5 w5 hpost
 cases hR : adv T (some [Xbf 2]) with
 | none =>
   rw [hR] at hpost
   obtain ⟨rfl, hch⟩ := hpost
   have HNO := lh ((HEQ.out).trans (Xad hR _))
   have HCH := lh ((HW2.out).fell hch)
   clear hR hch
   unfold boom
   go_wp2
   refine ⟨rfl, ?_⟩
   rw [HNO.out]
   exact ⟨rfl, HCH.out⟩
 | some T5 =>
   rw [hR] at hpost
   obtain ⟨rfl, u5, hwent⟩ := hpost
   have HW5 := lh ((HW2.out).trans hwent)
   have HF5 := lh ((HF2.out).went (HW2.out).1 hg1 hg2 hwent)
   have HEQ5 := lh ((HEQ.out).trans (Xae hR _))
   clear hwent hR
   have pc6 := (HF5.out).pc
   have dc6 := (HF5.out).dc
   go_wp2_with fail
   refine (Xkg (hb.trans ((HW5.out).2.2.below hB (fun x hx => (hp.mine hx).1))) hBg hg1 hg2 (HW5.out).1 (HF5.out) (HR.out) hd0 hd50 [[61]] (by intro t ht; simp at ht; have := hnl; have := htl; first | (rcases ht with rfl | rfl | rfl | rfl <;> first | decide | assumption | simp) | (rcases ht with rfl | rfl | rfl <;> first | decide | assumption | simp) | (rcases ht with rfl | rfl <;> first | decide | assumption | simp) | (rw [ht]; first | decide | assumption) | (rw [ht]; simp)) (by simp)).mono ?_
   rintro e7 w7 hpost
   cases hR : adv T5 (argC ex d [[61]]) with
   | none =>
     rw [hR] at hpost
     obtain ⟨rfl, hch⟩ := hpost
     have HNO := lh ((HEQ5.out).trans (Xad hR _))
     have HCH := lh ((HW5.out).fell_fr hwg hch)
     clear hR hch
     unfold boom
     go_wp2
     refine ⟨rfl, ?_⟩
     rw [HNO.out]
     exact ⟨rfl, HCH.out⟩
   | some T7 =>
     rw [hR] at hpost
     obtain ⟨rfl, u7, V7, hpA, hown, hch, hfr, hrd⟩ := hpost
     obtain ⟨A7, c7, hV, _, _, _⟩ := id hrd
     subst hV
     have HW7 := lh ((HW5.out).fr hwg hpA hown hch)
     have HF7 := lh hfr
     have HR7 := lh hrd
     have HEQ7 := lh ((HEQ5.out).trans (Xae hR _))
     clear hpA hown hch hfr hrd hR
     have pc8 := (HF7.out).pc
     have dc8 := (HF7.out).dc
     go_wp2_with fail
     refine (Xkg (hb.trans ((HW7.out).2.2.below hB (fun x hx => (hp.mine hx).1))) hBg hg1 hg2 (HW7.out).1 (HF7.out) (HR7.out) hd0 hd50 [[59]] (by intro t ht; simp at ht; have := hnl; have := htl; first | (rcases ht with rfl | rfl | rfl | rfl <;> first | decide | assumption | simp) | (rcases ht with rfl | rfl | rfl <;> first | decide | assumption | simp) | (rcases ht with rfl | rfl <;> first | decide | assumption | simp) | (rw [ht]; first | decide | assumption) | (rw [ht]; simp)) (by simp)).mono ?_
     rintro e9 w9 hpost
     cases hR : adv T7 (argC ex.tail d [[59]]) with
     | none =>
       rw [hR] at hpost
       obtain ⟨rfl, hch⟩ := hpost
       have HNO := lh ((HEQ7.out).trans (Xad hR _))
       have HCH := lh ((HW7.out).fell_fr hwg hch)
       clear hR hch
       unfold boom
       go_wp2
       refine ⟨rfl, ?_⟩
       rw [HNO.out]
       exact ⟨rfl, HCH.out⟩
     | some T9 =>
       rw [hR] at hpost
       obtain ⟨rfl, u9, V9, hpA, hown, hch, hfr, hrd⟩ := hpost
       obtain ⟨A9, c9, hV, _, _, _⟩ := id hrd
       subst hV
       have HW9 := lh ((HW7.out).fr hwg hpA hown hch)
       have HF9 := lh hfr
       have HR9 := lh hrd
       have HEQ9 := lh ((HEQ7.out).trans (Xae hR _))
       clear hpA hown hch hfr hrd hR
       have c2 := (HF9.out).sm.c2
       have c3 := (HF9.out).sm.c3
       have c4 := (HF9.out).sm.c4
       have c5 := (HF9.out).sm.c5
       have c6 := (HF9.out).sm.c6
       have hz0 : (Xaa []).toList = [] := Xaf []
       obtain ⟨m, hm⟩ : ∃ m, m = (ex.tail.tail).length := ⟨_, rfl⟩
       rw [← hm] at c4
       obtain ⟨nb, hnb⟩ : ∃ m, m = bd.length := ⟨_, rfl⟩
       rw [← hnb] at c5
       obtain ⟨ne, hne⟩ : ∃ m, m = el.length := ⟨_, rfl⟩
       rw [← hne] at c6
       by_cases hn : nm = []
       case neg =>
        have HNO := lh ((HEQ9.out).trans (show adv T9 (need _ (some [])) = none from by rw [Xag (fun h => hn h.1)]; rfl))
        have hs1 : ¬ (Xaa nm).toList = [] := by rw [Xaf]; exact hn
        clear hm hnb hne hn
        go_wp2_with fail
        refine (Xah _).mono ?_
        rintro e9 w9 ⟨rfl, rfl⟩
        unfold boom
        go_wp2
        refine ⟨rfl, ?_⟩
        rw [HNO.out]
        exact ⟨rfl, (HW9.out).2.2⟩
       by_cases ht : ty = []
       case neg =>
        have HNO := lh ((HEQ9.out).trans (show adv T9 (need _ (some [])) = none from by rw [Xag (fun h => ht h.2.1)]; rfl))
        subst hn
        have hs1 : ¬ (Xaa ty).toList = [] := by rw [Xaf]; exact ht
        clear hm hnb hne ht
        go_wp2_with fail
        refine (Xah _).mono ?_
        rintro e9 w9 ⟨rfl, rfl⟩
        unfold boom
        go_wp2
        refine ⟨rfl, ?_⟩
        rw [HNO.out]
        exact ⟨rfl, (HW9.out).2.2⟩
       by_cases hx : (ex.tail.tail).length = 0
       case neg =>
        have HNO := lh ((HEQ9.out).trans (show adv T9 (need _ (some [])) = none from by rw [Xag (fun h => hx h.2.2.1)]; rfl))
        subst hn
        subst ht
        have hl1 : (m == 0) = false := by rw [beq_eq_false_iff_ne]; omega
        have hl2 : ((m : Int) == 0) = false := by rw [beq_eq_false_iff_ne]; omega
        clear hm hnb hne hx
        go_wp2_with fail
        refine (Xah _).mono ?_
        rintro e9 w9 ⟨rfl, rfl⟩
        unfold boom
        go_wp2
        refine ⟨rfl, ?_⟩
        rw [HNO.out]
        exact ⟨rfl, (HW9.out).2.2⟩
       by_cases hbl0 : bd.length = 0
       case neg =>
        have HNO := lh ((HEQ9.out).trans (show adv T9 (need _ (some [])) = none from by rw [Xag (fun h => hbl0 h.2.2.2.1)]; rfl))
        subst hn
        subst ht
        obtain rfl : m = 0 := by omega
        have hl1 : (nb == 0) = false := by rw [beq_eq_false_iff_ne]; omega
        have hl2 : ((nb : Int) == 0) = false := by rw [beq_eq_false_iff_ne]; omega
        clear hm hnb hne hx hbl0
        go_wp2_with fail
        refine (Xah _).mono ?_
        rintro e9 w9 ⟨rfl, rfl⟩
        unfold boom
        go_wp2
        refine ⟨rfl, ?_⟩
        rw [HNO.out]
        exact ⟨rfl, (HW9.out).2.2⟩
       by_cases hel0 : el.length = 0
       case neg =>
        have HNO := lh ((HEQ9.out).trans (show adv T9 (need _ (some [])) = none from by rw [Xag (fun h => hel0 h.2.2.2.2)]; rfl))
        subst hn
        subst ht
        obtain rfl : m = 0 := by omega
        obtain rfl : nb = 0 := by omega
        have hl1 : (ne == 0) = false := by rw [beq_eq_false_iff_ne]; omega
        have hl2 : ((ne : Int) == 0) = false := by rw [beq_eq_false_iff_ne]; omega
        clear hm hnb hne hx hbl0 hel0
        go_wp2_with fail
        refine (Xah _).mono ?_
        rintro e9 w9 ⟨rfl, rfl⟩
        unfold boom
        go_wp2
        refine ⟨rfl, ?_⟩
        rw [HNO.out]
        exact ⟨rfl, (HW9.out).2.2⟩
       have HFIN := lh ((HEQ9.out).trans (show adv T9 (need _ (some [])) = some T9 from by rw [Xai ⟨hn, ht, hx, hbl0, hel0⟩]; exact Xbe (HW9.out).1.fit))
       subst hn
       subst ht
       obtain rfl : m = 0 := by omega
       obtain rfl : nb = 0 := by omega
       obtain rfl : ne = 0 := by omega
       clear hm hnb hne hx hbl0 hel0
       go_wp2_with fail
       refine (Xaj _).mono ?_
       rintro e9 w9 ⟨rfl, rfl⟩
       go_wp2
       go_end0
       rw [HFIN.out]
       exact ⟨rfl, _, HW9.out⟩
set_option maxRecDepth 100000 in
set_option maxHeartbeats 4000000 in
theorem Xpx {w0 w : World} {Bc Ba B : Nat} {u : Value} {T : List (List UInt8)} {p : Int} {nm ty : List UInt8} {V bv ev : Value} {ex : List Ex} {bd el : List Sm} {d : Int} (hb : Below B w0 w) (hB : B ≤ w.heap.size) (hp : Xap w Bc Ba B u T) (hd0 : 0 ≤ d) (hd : d ≤ 24) (hr : Xbd w0 B ex V) (hnl : nm.length ≤ 40000) (htl : ty.length ≤ 40000)
  (hbd : Xao w0 B bd bv) (hel : Xao w0 B el ev) (hbs : ∃ A c, bv = .slice A bd.length c) (hes : ∃ A c, ev = .slice A el.length c) (hz : ex.length = 0) :
  Calls Tryz.prog 58 #[penV Bc Ba, .agg #[.int .i64 2, .int .i64 p, .string (Xaa nm), .string (Xaa ty), V, bv, ev], .int .i64 d] w (Xal w Bc Ba B u (adv T (penS (.mk 2 p nm ty ex bd el) d))) := by
 have hq1 : ¬ 0 < ex.length := by omega
 have hmf : ∀ (fn : Fn) (first cap : Array Value) (w : World), (Instr.makeFunc fn first cap).run Tryz.prog w = .ok (.func fn first cap) w := fun _ _ _ _ => rfl
 obtain ⟨A, c, hrv, _, _, _⟩ := id hr
 subst hrv
 obtain ⟨Ab, cb, hbv⟩ := hbs
 subst hbv
 obtain ⟨Ae, ce, hev⟩ := hes
 subst hev
 obtain ⟨X, hX⟩ : ∃ X : World, X = ((w.alloc (.cells #[penV Bc Ba] 49)).alloc (.cells #[.int .i64 2, .int .i64 p, .string (Xaa nm), .string (Xaa ty), .slice A ex.length c, .slice Ab bd.length cb, .slice Ae el.length ce] 38)).alloc (.cells #[.int .i64 d] 3) := ⟨_, rfl⟩
 obtain ⟨g, hg⟩ : ∃ g, g = w.heap.size := ⟨_, rfl⟩
 obtain ⟨hf, hsz⟩ := Xct hX hg
 have hw : Went w Bc Ba B u X u T := by rw [hX]; exact (((Went.refl hp).alloc _).alloc _).alloc _
 have e0 := hf.sm.c0
 have hg1 : Bc < g := by rw [hg]; exact Xab hp.cnt
 have hg2 : Ba < g := by rw [hg]; exact Xab hp.buf
 have hBg : B ≤ g := by rw [hg]; exact hB
 have hwg : w.heap.size ≤ g := by rw [hg]; exact Nat.le_refl _
 have hd50 : d ≤ 50 := by omega
 have HEQ := lh (congrArg (adv T) ((Xvt p nm ty ex bd el d).trans (Xaz (by rw [List.eq_nil_of_length_eq_zero hz]; exact fun h => h) _)))
 have HXS : Hid (g + 1 + 1 + 1 = X.heap.size) := lh (by rw [hsz])
 have HX := lh hX
 have HG := lh hg
 have HF := lh hf
 have HW := lh hw
 have HR := lh hr
 clear hX hg hf hw hsz hr
 clear hz
 unfold penV at HX ⊢
 go_enter Tryz.func58, Tryz.ntmps58
 have HNO := HEQ
 have pc1 := (HF.out).pc
 have dc1 := (HF.out).dc
 go_wp2_with fail
 rw [← HX.out]
 refine (Xah _).mono ?_
 rintro e2 w2 ⟨rfl, rfl⟩
 have HCH := lh ((HW.out).2.2)
 unfold boom
 go_wp2
 refine ⟨rfl, ?_⟩
 rw [HNO.out]
 exact ⟨rfl, HCH.out⟩
set_option maxRecDepth 100000 in
set_option maxHeartbeats 4000000 in
theorem Xwv {w0 w : World} {Bc Ba B : Nat} {u : Value} {T : List (List UInt8)} {p : Int} {nm ty : List UInt8} {V bv ev : Value} {ex : List Ex} {bd el : List Sm} {d : Int} (hb : Below B w0 w) (hB : B ≤ w.heap.size) (hp : Xap w Bc Ba B u T) (hd0 : 0 ≤ d) (hd : d ≤ 24) (hr : Xbd w0 B ex V) (hnl : nm.length ≤ 40000) (htl : ty.length ≤ 40000)
  (hbd : Xao w0 B bd bv) (hel : Xao w0 B el ev) (hbs : ∃ A c, bv = .slice A bd.length c) (hes : ∃ A c, ev = .slice A el.length c) (hgt : 0 < ex.length) (hq : ¬ Xfp ex) :
  Calls Tryz.prog 58 #[penV Bc Ba, .agg #[.int .i64 2, .int .i64 p, .string (Xaa nm), .string (Xaa ty), V, bv, ev], .int .i64 d] w (Xal w Bc Ba B u (adv T (penS (.mk 2 p nm ty ex bd el) d))) := by
 have hmf : ∀ (fn : Fn) (first cap : Array Value) (w : World), (Instr.makeFunc fn first cap).run Tryz.prog w = .ok (.func fn first cap) w := fun _ _ _ _ => rfl
 obtain ⟨A, c, hrv, _, _, hall⟩ := id hr
 subst hrv
 obtain ⟨b, off, A5, n5, c5, rfl, hbB, _, r0, r1, r2, r3, r4, _⟩ := hall 0 hgt
 have up : ∀ {i : Nat} {v : Value}, w0.cell? ⟨b, i, none⟩ = some v → ∀ o1 o2 o3, (((w.alloc o1).alloc o2).alloc o3).cell? ⟨b, i, none⟩ = some v := fun h o1 o2 o3 => Xbr (Xbr (Xbr ((hb.cell hbB).trans h) o1) o2) o3
 rw [Nat.zero_mul, Nat.add_zero] at r0 r1 r2 r3 r4
 have r0 := up r0
 have r1 := up r1
 have r2 := up r2
 have r3 := up r3
 have r4 := up r4
 have hpl : Xfp ex ↔ (ex[0].kind = 4 ∨ ex[0].kind = 5 ∨ ex[0].kind = 6) := by
  cases ex with
  | nil => exact absurd hgt (by simp)
  | cons a r => exact Iff.rfl
 obtain ⟨E, hE⟩ : ∃ E, E = ex[0] := ⟨_, rfl⟩
 rw [← hE] at r0 r1 r2 r3 hpl
 clear up hall hE
 obtain ⟨Ab, cb, hbv⟩ := hbs
 subst hbv
 obtain ⟨Ae, ce, hev⟩ := hes
 subst hev
 obtain ⟨X, hX⟩ : ∃ X : World, X = ((w.alloc (.cells #[penV Bc Ba] 49)).alloc (.cells #[.int .i64 2, .int .i64 p, .string (Xaa nm), .string (Xaa ty), .slice (some ⟨b, off, none⟩) ex.length c, .slice Ab bd.length cb, .slice Ae el.length ce] 38)).alloc (.cells #[.int .i64 d] 3) := ⟨_, rfl⟩
 obtain ⟨g, hg⟩ : ∃ g, g = w.heap.size := ⟨_, rfl⟩
 obtain ⟨hf, hsz⟩ := Xct hX hg
 have hw : Went w Bc Ba B u X u T := by rw [hX]; exact (((Went.refl hp).alloc _).alloc _).alloc _
 have e0 := hf.sm.c0
 have hg1 : Bc < g := by rw [hg]; exact Xab hp.cnt
 have hg2 : Ba < g := by rw [hg]; exact Xab hp.buf
 have hBg : B ≤ g := by rw [hg]; exact hB
 have hwg : w.heap.size ≤ g := by rw [hg]; exact Nat.le_refl _
 have hd50 : d ≤ 50 := by omega
 have HEQ := lh (congrArg (adv T) ((Xvt p nm ty ex bd el d).trans (Xaz hq _)))
 have HXS : Hid (g + 1 + 1 + 1 = X.heap.size) := lh (by rw [hsz])
 have HX := lh hX
 have HG := lh hg
 have HF := lh hf
 have HW := lh hw
 have HR := lh hr
 clear hX hg hf hw hsz hr
 unfold penV at HX ⊢
 go_enter Tryz.func58, Tryz.ntmps58
 have HNO := HEQ
 have pc1 := (HF.out).pc
 have dc1 := (HF.out).dc
 go_wp2_with fail
 rw [← HX.out, ← HG.out]
 refine (Xnt E.kind E.pl E.num (Xaa E.name) (A5) n5 c5 X false (by rw [eq_comm, decide_eq_false_iff_not]; exact fun h => hq (hpl.2 h))).mono ?_
 rintro e2 w2 ⟨rfl, hbl⟩
 have HW2 := lh ((HW.out).below hbl)
 have HF2 := lh ((HF.out).below hbl)
 clear hbl r0 r1 r2 r3 r4 hpl
 have pc3 := (HF2.out).pc
 have dc3 := (HF2.out).dc
 go_wp2_with fail
 refine (Xah _).mono ?_
 rintro e8 w8 ⟨rfl, rfl⟩
 have HCH := lh ((HW2.out).2.2)
 unfold boom
 go_wp2
 refine ⟨rfl, ?_⟩
 rw [HNO.out]
 exact ⟨rfl, HCH.out⟩
end Go.Proofs.YtodociiaobjfgaaGreatDoor
