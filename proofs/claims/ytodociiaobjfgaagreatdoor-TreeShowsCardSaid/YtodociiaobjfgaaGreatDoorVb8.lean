/- Wd -/
import Derived.Test.YtodociiaobjfgaaGreatDoorVb9
set_option linter.unusedVariables false
set_option linter.unusedSimpArgs false
namespace Go.Proofs.YtodociiaobjfgaaGreatDoor
open Go.RowKit
set_option maxRecDepth 100000 in
set_option maxHeartbeats 2000000 in
theorem Xtz {w0 w : World} {Bc Ba B : Nat} {u : Value} {T0 : List (List UInt8)} (hb : Below B w0 w) (hB : B ≤ w.heap.size) (hp : Xap w Bc Ba B u T0) (ty nm : List UInt8) (hty : ty.length ≤ 40000) (hnm : nm.length ≤ 40000) (es : List Ex) {V : Value} (hr : Xbd w0 B es V) (D : Int) (hD0 : 0 ≤ D) (hD : D ≤ 100) (h0 : ty = []) :
  Calls Tryz.prog 73 #[penV Bc Ba, .string (Xaa ty), .string (Xaa nm), V, .int .i64 D] w (Xal w Bc Ba B u (adv T0 (Xha ty nm es D))) := by
 obtain ⟨A, c, hrv, _, _, _⟩ := id hr
 subst hrv
 obtain ⟨X, hX⟩ : ∃ X : World, X = w.alloc (.cells #[.string (Xaa ty)] 9) := ⟨_, rfl⟩
 have hblk : X.heap[w.heap.size]? = some (.cells #[.string (Xaa ty)] 9 (0, 0)) := by rw [hX]; exact heap_alloc_new _ _
 have hw : Went w Bc Ba B u X u T0 := by rw [hX]; exact (Went.refl hp).alloc _
 have hst := Xaf ty
 have c0 := cell_of_row X w.heap.size 0 _ _ (0, 0) hblk
 simp at c0
 have HP := lh hp
 have HB := lh hb
 have HR0 := lh hr
 have HW0 := lh hw
 have HX := lh hX
 have HXS : Hid (w.heap.size + 1 = X.heap.size) := lh (by rw [hX]; simp)
 have HBLK := lh hblk
 have HST := lh hst
 have HTY := lh hty
 have HNM := lh hnm
 have hnb : ¬ Mine Bc Ba u w.heap.size := fun hm => by have := (hp.mine hm).2; omega
 have HNB := lh hnb
 have HEQ0 : Hid (adv T0 (Xha ty nm es D) = adv T0 (cat (some [[99, 97, 108, 108]]) (cat (some [nm]) (cat (Xhj es D) (some [[59]]))))) := lh (by unfold Xha; rw [if_pos h0, Xbh])
 have hs0 : (Xaa ty).toList = [] := by rw [hst, h0]
 clear hX hblk hw hst hp hb hr hty hnm hnb h0
 unfold penV
 go_enter Tryz.func73, Tryz.ntmps73
 go_wp2_with fail
 rw [← HX.out, HXS.out]
 refine (Xaq (Went.refl HW0.out.1) (Nat.le_trans hB HW0.out.2.2.size) [[99, 97, 108, 108]] (by intro t ht; simp at ht; rw [ht]; decide) (by simp)).mono ?_
 rintro e1 w1 hpost
 cases hR : adv T0 (some [[99, 97, 108, 108]]) with
 | none =>
   rw [hR] at hpost
   obtain ⟨rfl, hch⟩ := hpost
   have HNO := lh (HEQ0.out.trans (Xad hR _))
   have HCH := lh (HW0.out.fell hch)
   clear hR hch
   unfold boom
   go_wp2
   refine ⟨rfl, ?_⟩
   rw [HNO.out]
   exact ⟨rfl, HCH.out⟩
 | some T1 =>
   rw [hR] at hpost
   obtain ⟨rfl, u1, hwent⟩ := hpost
   have HW1 := lh (HW0.out.trans hwent)
   have HEQ1 := lh (HEQ0.out.trans (Xae hR _))
   have hb1 : w1.heap[w.heap.size]? = some (.cells #[.string (Xaa ty)] 9 (0, 0)) := (hwent.2.2.block _ (Xab HBLK.out) HNB.out).trans HBLK.out
   have HBLK1 := lh hb1
   have d1 := cell_of_row w1 w.heap.size 0 _ _ (0, 0) hb1
   simp at d1
   clear hb1
   clear hwent hR
   go_wp2_with fail
   refine (Xaq (Went.refl HW1.out.1) (Nat.le_trans hB HW1.out.2.2.size) [nm] (by intro t ht; simp at ht; have := HNM.out; have := HTY.out; first | (rcases ht with rfl | rfl <;> first | assumption | decide) | (rw [ht]; assumption)) (by simp)).mono ?_
   rintro e4 w4 hpost
   cases hR : adv T1 (some [nm]) with
   | none =>
     rw [hR] at hpost
     obtain ⟨rfl, hch⟩ := hpost
     have HNO := lh (HEQ1.out.trans (Xad hR _))
     have HCH := lh (HW1.out.fell hch)
     clear hR hch
     unfold boom
     go_wp2
     refine ⟨rfl, ?_⟩
     rw [HNO.out]
     exact ⟨rfl, HCH.out⟩
   | some T4 =>
     rw [hR] at hpost
     obtain ⟨rfl, u4, hwent⟩ := hpost
     have HW4 := lh (HW1.out.trans hwent)
     have HEQ4 := lh (HEQ1.out.trans (Xae hR _))

     clear hwent hR
     have hb04 : Below B w0 w4 := HB.out.trans (HW4.out.2.2.below hB (fun x hx => (HP.out.mine hx).1))
     have HAR := lh (Xqe hb04 (Nat.le_trans hB HW4.out.2.2.size) HW4.out.1 es HR0.out D hD0 hD)
     clear hb04
     unfold penV at HAR
     go_wp2_with fail
     refine (HAR.out).mono ?_
     rintro e5 w5 hpost
     cases hR : adv T4 (Xhj es D) with
     | none =>
       rw [hR] at hpost
       obtain ⟨rfl, hch⟩ := hpost
       have HNO := lh (HEQ4.out.trans (Xad hR _))
       have HCH := lh (HW4.out.fell hch)
       clear hR hch
       unfold boom
       go_wp2
       refine ⟨rfl, ?_⟩
       rw [HNO.out]
       exact ⟨rfl, HCH.out⟩
     | some T5 =>
       rw [hR] at hpost
       obtain ⟨rfl, u5, hwent⟩ := hpost
       have HW5 := lh (HW4.out.trans hwent)
       have HEQ5 := lh (HEQ4.out.trans (Xae hR _))

       clear hwent hR
       go_wp2_with fail
       refine (Xaq (Went.refl HW5.out.1) (Nat.le_trans hB HW5.out.2.2.size) [[59]] (by intro t ht; simp at ht; rw [ht]; decide) (by simp)).mono ?_
       rintro e9 w9 hpost
       cases hR : adv T5 (some [[59]]) with
       | none =>
         rw [hR] at hpost
         obtain ⟨rfl, hch⟩ := hpost
         have HNO := lh (HEQ5.out.trans hR)
         have HCH := lh (HW5.out.fell hch)
         clear hR hch
         unfold boom
         go_wp2
         refine ⟨rfl, ?_⟩
         rw [HNO.out]
         exact ⟨rfl, HCH.out⟩
       | some T9 =>
         rw [hR] at hpost
         obtain ⟨rfl, u9, hwent⟩ := hpost
         have HW9 := lh (HW5.out.trans hwent)
         have HFIN := lh (HEQ5.out.trans hR)
         clear hwent hR
         go_wp2
         go_end0
         rw [HFIN.out]
         exact ⟨rfl, u9, HW9.out⟩
set_option maxRecDepth 100000 in
set_option maxHeartbeats 2000000 in
theorem call_yes {w0 w : World} {Bc Ba B : Nat} {u : Value} {T0 : List (List UInt8)} (hb : Below B w0 w) (hB : B ≤ w.heap.size) (hp : Xap w Bc Ba B u T0) (ty nm : List UInt8) (hty : ty.length ≤ 40000) (hnm : nm.length ≤ 40000) (es : List Ex) {V : Value} (hr : Xbd w0 B es V) (D : Int) (hD0 : 0 ≤ D) (hD : D ≤ 100) (h0 : ¬ ty = []) (hq : Xam ty = true) :
  Calls Tryz.prog 73 #[penV Bc Ba, .string (Xaa ty), .string (Xaa nm), V, .int .i64 D] w (Xal w Bc Ba B u (adv T0 (Xha ty nm es D))) := by
 obtain ⟨A, c, hrv, _, _, _⟩ := id hr
 subst hrv
 obtain ⟨X, hX⟩ : ∃ X : World, X = w.alloc (.cells #[.string (Xaa ty)] 9) := ⟨_, rfl⟩
 have hblk : X.heap[w.heap.size]? = some (.cells #[.string (Xaa ty)] 9 (0, 0)) := by rw [hX]; exact heap_alloc_new _ _
 have hw : Went w Bc Ba B u X u T0 := by rw [hX]; exact (Went.refl hp).alloc _
 have hst := Xaf ty
 have c0 := cell_of_row X w.heap.size 0 _ _ (0, 0) hblk
 simp at c0
 have HP := lh hp
 have HB := lh hb
 have HR0 := lh hr
 have HW0 := lh hw
 have HX := lh hX
 have HXS : Hid (w.heap.size + 1 = X.heap.size) := lh (by rw [hX]; simp)
 have HBLK := lh hblk
 have HST := lh hst
 have HTY := lh hty
 have HNM := lh hnm
 have hnb : ¬ Mine Bc Ba u w.heap.size := fun hm => by have := (hp.mine hm).2; omega
 have HNB := lh hnb
 have HEQ0 : Hid (adv T0 (Xha ty nm es D) = adv T0 (cat (some [[99, 97, 108, 108]]) (cat (some [ty, [61]]) (cat (some [nm]) (cat (Xhj es D) (some [[59]])))))) := lh (by unfold Xha; rw [if_neg h0, Xai hq, Xbh])
 have hs0 : ¬ (Xaa ty).toList = [] := by rw [hst]; exact h0
 have hs1 : (!(Xaa ty).toList.isEmpty) = true := by rw [Bool.not_eq_true', List.isEmpty_eq_false_iff]; exact hs0
 clear hX hblk hw hst hp hb hr hty hnm hnb h0
 unfold penV
 go_enter Tryz.func73, Tryz.ntmps73
 go_wp2_with fail
 rw [← HX.out, HXS.out]
 refine (Xaq (Went.refl HW0.out.1) (Nat.le_trans hB HW0.out.2.2.size) [[99, 97, 108, 108]] (by intro t ht; simp at ht; rw [ht]; decide) (by simp)).mono ?_
 rintro e1 w1 hpost
 cases hR : adv T0 (some [[99, 97, 108, 108]]) with
 | none =>
   rw [hR] at hpost
   obtain ⟨rfl, hch⟩ := hpost
   have HNO := lh (HEQ0.out.trans (Xad hR _))
   have HCH := lh (HW0.out.fell hch)
   clear hR hch
   unfold boom
   go_wp2
   refine ⟨rfl, ?_⟩
   rw [HNO.out]
   exact ⟨rfl, HCH.out⟩
 | some T1 =>
   rw [hR] at hpost
   obtain ⟨rfl, u1, hwent⟩ := hpost
   have HW1 := lh (HW0.out.trans hwent)
   have HEQ1 := lh (HEQ0.out.trans (Xae hR _))
   have hb1 : w1.heap[w.heap.size]? = some (.cells #[.string (Xaa ty)] 9 (0, 0)) := (hwent.2.2.block _ (Xab HBLK.out) HNB.out).trans HBLK.out
   have HBLK1 := lh hb1
   have d1 := cell_of_row w1 w.heap.size 0 _ _ (0, 0) hb1
   simp at d1
   clear hb1
   clear hwent hR
   have hsz : (Xaa ty).size ≤ 40000 := by rw [Lib.size_eq, Xak]; exact HTY.out
   have HTN := lh (Xba ⟨w.heap.size, 0, none⟩ (Xaa ty) w1 d1 (frozen_of_row _ w.heap.size 0 _ _ HBLK1.out) hsz hq)
   clear hsz
   go_wp2_with fail
   refine HTN.out.mono ?_
   rintro e2 w2 ⟨rfl, wm, hbl, hw2⟩
   have hlt1 : w.heap.size < w1.heap.size := Xab HBLK1.out
   have hnm1 : ¬ Mine Bc Ba u1 w.heap.size := fun hm => by
    rcases hm with hm | hm | hm
    · exact HNB.out (.inl hm)
    · exact HNB.out (.inr (.inl hm))
    · obtain ⟨_, cur, hg⟩ := HW1.out.1.own.blk hm
      rw [HBLK1.out] at hg; simp at hg
   have HW2 : Hid (Went w Bc Ba B u w2 u1 T1) := lh (by rw [hw2]; exact (HW1.out.below hbl).setCell _ _ (Nat.le_refl _) hnm1)
   clear hbl hw2 hnm1 hlt1 d1
   obtain ⟨u2, hu2⟩ : ∃ u2, u2 = u1 := ⟨_, rfl⟩
   obtain ⟨T2, hT2⟩ : ∃ T2, T2 = T1 := ⟨_, rfl⟩
   rw [← hu2, ← hT2] at HW2
   rw [← hT2] at HEQ1
   have HEQ2 := HEQ1
   clear hu2 hT2
   go_wp2_with fail
   refine (Xaq (Went.refl HW2.out.1) (Nat.le_trans hB HW2.out.2.2.size) [ty, [61]] (by intro t ht; simp at ht; have := HNM.out; have := HTY.out; first | (rcases ht with rfl | rfl <;> first | assumption | decide) | (rw [ht]; assumption)) (by simp)).mono ?_
   rintro e3 w3 hpost
   cases hR : adv T2 (some [ty, [61]]) with
   | none =>
     rw [hR] at hpost
     obtain ⟨rfl, hch⟩ := hpost
     have HNO := lh (HEQ2.out.trans (Xad hR _))
     have HCH := lh (HW2.out.fell hch)
     clear hR hch
     unfold boom
     go_wp2
     refine ⟨rfl, ?_⟩
     rw [HNO.out]
     exact ⟨rfl, HCH.out⟩
   | some T3 =>
     rw [hR] at hpost
     obtain ⟨rfl, u3, hwent⟩ := hpost
     have HW3 := lh (HW2.out.trans hwent)
     have HEQ3 := lh (HEQ2.out.trans (Xae hR _))

     clear hwent hR
     go_wp2_with fail
     refine (Xaq (Went.refl HW3.out.1) (Nat.le_trans hB HW3.out.2.2.size) [nm] (by intro t ht; simp at ht; have := HNM.out; have := HTY.out; first | (rcases ht with rfl | rfl <;> first | assumption | decide) | (rw [ht]; assumption)) (by simp)).mono ?_
     rintro e4 w4 hpost
     cases hR : adv T3 (some [nm]) with
     | none =>
       rw [hR] at hpost
       obtain ⟨rfl, hch⟩ := hpost
       have HNO := lh (HEQ3.out.trans (Xad hR _))
       have HCH := lh (HW3.out.fell hch)
       clear hR hch
       unfold boom
       go_wp2
       refine ⟨rfl, ?_⟩
       rw [HNO.out]
       exact ⟨rfl, HCH.out⟩
     | some T4 =>
       rw [hR] at hpost
       obtain ⟨rfl, u4, hwent⟩ := hpost
       have HW4 := lh (HW3.out.trans hwent)
       have HEQ4 := lh (HEQ3.out.trans (Xae hR _))

       clear hwent hR
       have hb04 : Below B w0 w4 := HB.out.trans (HW4.out.2.2.below hB (fun x hx => (HP.out.mine hx).1))
       have HAR := lh (Xqe hb04 (Nat.le_trans hB HW4.out.2.2.size) HW4.out.1 es HR0.out D hD0 hD)
       clear hb04
       unfold penV at HAR
       go_wp2_with fail
       refine (HAR.out).mono ?_
       rintro e5 w5 hpost
       cases hR : adv T4 (Xhj es D) with
       | none =>
         rw [hR] at hpost
         obtain ⟨rfl, hch⟩ := hpost
         have HNO := lh (HEQ4.out.trans (Xad hR _))
         have HCH := lh (HW4.out.fell hch)
         clear hR hch
         unfold boom
         go_wp2
         refine ⟨rfl, ?_⟩
         rw [HNO.out]
         exact ⟨rfl, HCH.out⟩
       | some T5 =>
         rw [hR] at hpost
         obtain ⟨rfl, u5, hwent⟩ := hpost
         have HW5 := lh (HW4.out.trans hwent)
         have HEQ5 := lh (HEQ4.out.trans (Xae hR _))

         clear hwent hR
         go_wp2_with fail
         refine (Xaq (Went.refl HW5.out.1) (Nat.le_trans hB HW5.out.2.2.size) [[59]] (by intro t ht; simp at ht; rw [ht]; decide) (by simp)).mono ?_
         rintro e9 w9 hpost
         cases hR : adv T5 (some [[59]]) with
         | none =>
           rw [hR] at hpost
           obtain ⟨rfl, hch⟩ := hpost
           have HNO := lh (HEQ5.out.trans hR)
           have HCH := lh (HW5.out.fell hch)
           clear hR hch
           unfold boom
           go_wp2
           refine ⟨rfl, ?_⟩
           rw [HNO.out]
           exact ⟨rfl, HCH.out⟩
         | some T9 =>
           rw [hR] at hpost
           obtain ⟨rfl, u9, hwent⟩ := hpost
           have HW9 := lh (HW5.out.trans hwent)
           have HFIN := lh (HEQ5.out.trans hR)
           clear hwent hR
           go_wp2
           go_end0
           rw [HFIN.out]
           exact ⟨rfl, u9, HW9.out⟩
set_option maxRecDepth 100000 in
set_option maxHeartbeats 2000000 in
theorem call_no {w0 w : World} {Bc Ba B : Nat} {u : Value} {T0 : List (List UInt8)} (hb : Below B w0 w) (hB : B ≤ w.heap.size) (hp : Xap w Bc Ba B u T0) (ty nm : List UInt8) (hty : ty.length ≤ 40000) (hnm : nm.length ≤ 40000) (es : List Ex) {V : Value} (hr : Xbd w0 B es V) (D : Int) (hD0 : 0 ≤ D) (hD : D ≤ 100) (h0 : ¬ ty = []) (hq : Xam ty = false) :
  Calls Tryz.prog 73 #[penV Bc Ba, .string (Xaa ty), .string (Xaa nm), V, .int .i64 D] w (Xal w Bc Ba B u (adv T0 (Xha ty nm es D))) := by
 obtain ⟨A, c, hrv, _, _, _⟩ := id hr
 subst hrv
 obtain ⟨X, hX⟩ : ∃ X : World, X = w.alloc (.cells #[.string (Xaa ty)] 9) := ⟨_, rfl⟩
 have hblk : X.heap[w.heap.size]? = some (.cells #[.string (Xaa ty)] 9 (0, 0)) := by rw [hX]; exact heap_alloc_new _ _
 have hw : Went w Bc Ba B u X u T0 := by rw [hX]; exact (Went.refl hp).alloc _
 have hst := Xaf ty
 have c0 := cell_of_row X w.heap.size 0 _ _ (0, 0) hblk
 simp at c0
 have HP := lh hp
 have HB := lh hb
 have HR0 := lh hr
 have HW0 := lh hw
 have HX := lh hX
 have HXS : Hid (w.heap.size + 1 = X.heap.size) := lh (by rw [hX]; simp)
 have HBLK := lh hblk
 have HST := lh hst
 have HTY := lh hty
 have HNM := lh hnm
 have hnb : ¬ Mine Bc Ba u w.heap.size := fun hm => by have := (hp.mine hm).2; omega
 have HNB := lh hnb
 have HEQ0 : Hid (adv T0 (Xha ty nm es D) = adv T0 (cat (some [[99, 97, 108, 108]]) none)) := lh (by unfold Xha; rw [if_neg h0, Xag (by simp [hq]), Xan, Xan])
 have hs0 : ¬ (Xaa ty).toList = [] := by rw [hst]; exact h0
 have hs1 : (!(Xaa ty).toList.isEmpty) = true := by rw [Bool.not_eq_true', List.isEmpty_eq_false_iff]; exact hs0
 clear hX hblk hw hst hp hb hr hty hnm hnb h0
 unfold penV
 go_enter Tryz.func73, Tryz.ntmps73
 go_wp2_with fail
 rw [← HX.out, HXS.out]
 refine (Xaq (Went.refl HW0.out.1) (Nat.le_trans hB HW0.out.2.2.size) [[99, 97, 108, 108]] (by intro t ht; simp at ht; rw [ht]; decide) (by simp)).mono ?_
 rintro e1 w1 hpost
 cases hR : adv T0 (some [[99, 97, 108, 108]]) with
 | none =>
   rw [hR] at hpost
   obtain ⟨rfl, hch⟩ := hpost
   have HNO := lh (HEQ0.out.trans (Xad hR _))
   have HCH := lh (HW0.out.fell hch)
   clear hR hch
   unfold boom
   go_wp2
   refine ⟨rfl, ?_⟩
   rw [HNO.out]
   exact ⟨rfl, HCH.out⟩
 | some T1 =>
   rw [hR] at hpost
   obtain ⟨rfl, u1, hwent⟩ := hpost
   have HW1 := lh (HW0.out.trans hwent)
   have HEQ1 := lh (HEQ0.out.trans (Xae hR _))
   have hb1 : w1.heap[w.heap.size]? = some (.cells #[.string (Xaa ty)] 9 (0, 0)) := (hwent.2.2.block _ (Xab HBLK.out) HNB.out).trans HBLK.out
   have HBLK1 := lh hb1
   have d1 := cell_of_row w1 w.heap.size 0 _ _ (0, 0) hb1
   simp at d1
   clear hb1
   clear hwent hR
   have hsz : (Xaa ty).size ≤ 40000 := by rw [Lib.size_eq, Xak]; exact HTY.out
   have HTN := lh (Xdf ⟨w.heap.size, 0, none⟩ (Xaa ty) w1 d1 hsz hq)
   clear hsz
   go_wp2_with fail
   refine HTN.out.mono ?_
   rintro e2 w2 ⟨rfl, hbl⟩
   have HNO := lh (HEQ1.out.trans (Xqd _))
   have HCH := lh (HW1.out.2.2.trans (Chg.of_below (P := fun _ => False) hbl) (fun _ _ e => e.elim))
   clear hbl
   unfold boom
   go_wp2
   refine ⟨rfl, ?_⟩
   rw [HNO.out]
   exact ⟨rfl, HCH.out⟩
theorem call_any {w0 w : World} {Bc Ba B : Nat} {u : Value} {T : List (List UInt8)} (hb : Below B w0 w) (hB : B ≤ w.heap.size) (hp : Xap w Bc Ba B u T) (ty nm : List UInt8) (hty : ty.length ≤ 40000) (hnm : nm.length ≤ 40000) (es : List Ex) {V : Value} (hr : Xbd w0 B es V) (D : Int) (hD0 : 0 ≤ D) (hD : D ≤ 100) :
  Calls Tryz.prog 73 #[penV Bc Ba, .string (Xaa ty), .string (Xaa nm), V, .int .i64 D] w (Xal w Bc Ba B u (adv T (Xha ty nm es D))) := by
 by_cases h0 : ty = []
 · exact Xtz hb hB hp ty nm hty hnm es hr D hD0 hD h0
 · cases hq : Xam ty with
   | true => exact call_yes hb hB hp ty nm hty hnm es hr D hD0 hD h0 hq
   | false => exact call_no hb hB hp ty nm hty hnm es hr D hD0 hD h0 hq
end Go.Proofs.YtodociiaobjfgaaGreatDoor
