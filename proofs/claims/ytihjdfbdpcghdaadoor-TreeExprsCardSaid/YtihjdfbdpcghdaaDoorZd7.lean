/- Wd -/
import Derived.Test.YtihjdfbdpcghdaaDoorZe0
import Derived.IntWalk
set_option linter.unusedVariables false
namespace Go.Proofs.YtihjdfbdpcghdaaDoor
open Go.RowKit
set_option maxRecDepth 100000 in
set_option maxHeartbeats 2000000 in
theorem call_none {w0 w : World} {Bc Ba B : Nat} {u : Value} {T0 : List (List UInt8)} (hb : Below B w0 w) (hB : B ≤ w.heap.size) (hp : PenAt w Bc Ba B u T0) (ty nm : List UInt8) (hty : ty.length ≤ 40000) (hnm : nm.length ≤ 40000) (es : List Ex) {V : Value} (hr : Reads w0 B es V) (D : Int) (hD0 : 0 ≤ D) (hD : D ≤ 100) (h0 : ty = []) :
    Calls Tryd.prog 73 #[penV Bc Ba, .string (strOf ty), .string (strOf nm), V, .int .i64 D] w (PenPost w Bc Ba B u (adv T0 (callC ty nm es D))) := by
  obtain ⟨A, c, hrv, _, _, _⟩ := id hr
  subst hrv
  obtain ⟨X, hX⟩ : ∃ X : World, X = w.alloc (.cells #[.string (strOf ty)] 9) := ⟨_, rfl⟩
  have hblk : X.heap[w.heap.size]? = some (.cells #[.string (strOf ty)] 9 (0, 0)) := by rw [hX]; exact heap_alloc_new _ _
  have hw : Went w Bc Ba B u X u T0 := by rw [hX]; exact (Went.refl hp).alloc _
  have hst := strOf_toList ty
  have c0 := cell_of_row X w.heap.size 0 _ _ (0, 0) hblk
  simp at c0
  have HP := Lib.hid hp
  have HB := Lib.hid hb
  have HR0 := Lib.hid hr
  have HW0 := Lib.hid hw
  have HX := Lib.hid hX
  have HXS : Hid (w.heap.size + 1 = X.heap.size) := Lib.hid (by rw [hX]; simp)
  have HBLK := Lib.hid hblk
  have HST := Lib.hid hst
  have HTY := Lib.hid hty
  have HNM := Lib.hid hnm
  have hnb : ¬ Mine Bc Ba u w.heap.size := fun hm => by have := (hp.mine hm).2; omega
  have HNB := Lib.hid hnb
  have HEQ0 : Hid (adv T0 (callC ty nm es D) = adv T0 (cat (some [[99, 97, 108, 108]]) (cat (some [nm]) (cat (argsC es D) (some [[59]]))))) := Lib.hid (by unfold callC; rw [if_pos h0, cat_nil_l])
  have hs0 : (strOf ty).toList = [] := by rw [hst, h0]
  clear hX hblk hw hst hp hb hr hty hnm hnb h0
  unfold penV
  go_enter Tryd.func73, Tryd.ntmps73
  go_wp2_with fail
  rw [← HX.out, HXS.out]
  refine (put_new (Went.refl HW0.out.1) (Nat.le_trans hB HW0.out.2.2.size) [[99, 97, 108, 108]] (by intro t ht; simp at ht; rw [ht]; decide) (by simp)).mono ?_
  rintro e1 w1 hpost
  cases hR : adv T0 (some [[99, 97, 108, 108]]) with
  | none =>
    rw [hR] at hpost
    obtain ⟨rfl, hch⟩ := hpost
    have HNO := Lib.hid (HEQ0.out.trans (adv_cat_none hR _))
    have HCH := Lib.hid (HW0.out.fell hch)
    clear hR hch
    unfold boom
    go_wp2
    refine ⟨rfl, ?_⟩
    rw [HNO.out]
    exact ⟨rfl, HCH.out⟩
  | some T1 =>
    rw [hR] at hpost
    obtain ⟨rfl, u1, hwent⟩ := hpost
    have HW1 := Lib.hid (HW0.out.trans hwent)
    have HEQ1 := Lib.hid (HEQ0.out.trans (adv_cat_some hR _))
    have hb1 : w1.heap[w.heap.size]? = some (.cells #[.string (strOf ty)] 9 (0, 0)) := (hwent.2.2.block _ (lt_of_heap HBLK.out) HNB.out).trans HBLK.out
    have HBLK1 := Lib.hid hb1
    have d1 := cell_of_row w1 w.heap.size 0 _ _ (0, 0) hb1
    simp at d1
    clear hb1
    clear hwent hR
    go_wp2_with fail
    refine (put_new (Went.refl HW1.out.1) (Nat.le_trans hB HW1.out.2.2.size) [nm] (by intro t ht; simp at ht; have := HNM.out; have := HTY.out; first | (rcases ht with rfl | rfl <;> first | assumption | decide) | (rw [ht]; assumption)) (by simp)).mono ?_
    rintro e4 w4 hpost
    cases hR : adv T1 (some [nm]) with
    | none =>
      rw [hR] at hpost
      obtain ⟨rfl, hch⟩ := hpost
      have HNO := Lib.hid (HEQ1.out.trans (adv_cat_none hR _))
      have HCH := Lib.hid (HW1.out.fell hch)
      clear hR hch
      unfold boom
      go_wp2
      refine ⟨rfl, ?_⟩
      rw [HNO.out]
      exact ⟨rfl, HCH.out⟩
    | some T4 =>
      rw [hR] at hpost
      obtain ⟨rfl, u4, hwent⟩ := hpost
      have HW4 := Lib.hid (HW1.out.trans hwent)
      have HEQ4 := Lib.hid (HEQ1.out.trans (adv_cat_some hR _))
      
      clear hwent hR
      have hb04 : Below B w0 w4 := HB.out.trans (HW4.out.2.2.below hB (fun x hx => (HP.out.mine hx).1))
      have HAR := Lib.hid (args_any hb04 (Nat.le_trans hB HW4.out.2.2.size) HW4.out.1 es HR0.out D hD0 hD)
      clear hb04
      unfold penV at HAR
      go_wp2_with fail
      refine (HAR.out).mono ?_
      rintro e5 w5 hpost
      cases hR : adv T4 (argsC es D) with
      | none =>
        rw [hR] at hpost
        obtain ⟨rfl, hch⟩ := hpost
        have HNO := Lib.hid (HEQ4.out.trans (adv_cat_none hR _))
        have HCH := Lib.hid (HW4.out.fell hch)
        clear hR hch
        unfold boom
        go_wp2
        refine ⟨rfl, ?_⟩
        rw [HNO.out]
        exact ⟨rfl, HCH.out⟩
      | some T5 =>
        rw [hR] at hpost
        obtain ⟨rfl, u5, hwent⟩ := hpost
        have HW5 := Lib.hid (HW4.out.trans hwent)
        have HEQ5 := Lib.hid (HEQ4.out.trans (adv_cat_some hR _))
        
        clear hwent hR
        go_wp2_with fail
        refine (put_new (Went.refl HW5.out.1) (Nat.le_trans hB HW5.out.2.2.size) [[59]] (by intro t ht; simp at ht; rw [ht]; decide) (by simp)).mono ?_
        rintro e9 w9 hpost
        cases hR : adv T5 (some [[59]]) with
        | none =>
          rw [hR] at hpost
          obtain ⟨rfl, hch⟩ := hpost
          have HNO := Lib.hid (HEQ5.out.trans hR)
          have HCH := Lib.hid (HW5.out.fell hch)
          clear hR hch
          unfold boom
          go_wp2
          refine ⟨rfl, ?_⟩
          rw [HNO.out]
          exact ⟨rfl, HCH.out⟩
        | some T9 =>
          rw [hR] at hpost
          obtain ⟨rfl, u9, hwent⟩ := hpost
          have HW9 := Lib.hid (HW5.out.trans hwent)
          have HFIN := Lib.hid (HEQ5.out.trans hR)
          clear hwent hR
          go_wp2
          go_end0
          rw [HFIN.out]
          exact ⟨rfl, u9, HW9.out⟩
set_option maxRecDepth 100000 in
set_option maxHeartbeats 2000000 in
theorem call_yes {w0 w : World} {Bc Ba B : Nat} {u : Value} {T0 : List (List UInt8)} (hb : Below B w0 w) (hB : B ≤ w.heap.size) (hp : PenAt w Bc Ba B u T0) (ty nm : List UInt8) (hty : ty.length ≤ 40000) (hnm : nm.length ≤ 40000) (es : List Ex) {V : Value} (hr : Reads w0 B es V) (D : Int) (hD0 : 0 ≤ D) (hD : D ≤ 100) (h0 : ¬ ty = []) (hq : nameB ty = true) :
    Calls Tryd.prog 73 #[penV Bc Ba, .string (strOf ty), .string (strOf nm), V, .int .i64 D] w (PenPost w Bc Ba B u (adv T0 (callC ty nm es D))) := by
  obtain ⟨A, c, hrv, _, _, _⟩ := id hr
  subst hrv
  obtain ⟨X, hX⟩ : ∃ X : World, X = w.alloc (.cells #[.string (strOf ty)] 9) := ⟨_, rfl⟩
  have hblk : X.heap[w.heap.size]? = some (.cells #[.string (strOf ty)] 9 (0, 0)) := by rw [hX]; exact heap_alloc_new _ _
  have hw : Went w Bc Ba B u X u T0 := by rw [hX]; exact (Went.refl hp).alloc _
  have hst := strOf_toList ty
  have c0 := cell_of_row X w.heap.size 0 _ _ (0, 0) hblk
  simp at c0
  have HP := Lib.hid hp
  have HB := Lib.hid hb
  have HR0 := Lib.hid hr
  have HW0 := Lib.hid hw
  have HX := Lib.hid hX
  have HXS : Hid (w.heap.size + 1 = X.heap.size) := Lib.hid (by rw [hX]; simp)
  have HBLK := Lib.hid hblk
  have HST := Lib.hid hst
  have HTY := Lib.hid hty
  have HNM := Lib.hid hnm
  have hnb : ¬ Mine Bc Ba u w.heap.size := fun hm => by have := (hp.mine hm).2; omega
  have HNB := Lib.hid hnb
  have HEQ0 : Hid (adv T0 (callC ty nm es D) = adv T0 (cat (some [[99, 97, 108, 108]]) (cat (some [ty, [61]]) (cat (some [nm]) (cat (argsC es D) (some [[59]])))))) := Lib.hid (by unfold callC; rw [if_neg h0, need_yes hq, cat_nil_l])
  have hs0 : ¬ (strOf ty).toList = [] := by rw [hst]; exact h0
  have hs1 : (!(strOf ty).toList.isEmpty) = true := by rw [Bool.not_eq_true', List.isEmpty_eq_false_iff]; exact hs0
  clear hX hblk hw hst hp hb hr hty hnm hnb h0
  unfold penV
  go_enter Tryd.func73, Tryd.ntmps73
  go_wp2_with fail
  rw [← HX.out, HXS.out]
  refine (put_new (Went.refl HW0.out.1) (Nat.le_trans hB HW0.out.2.2.size) [[99, 97, 108, 108]] (by intro t ht; simp at ht; rw [ht]; decide) (by simp)).mono ?_
  rintro e1 w1 hpost
  cases hR : adv T0 (some [[99, 97, 108, 108]]) with
  | none =>
    rw [hR] at hpost
    obtain ⟨rfl, hch⟩ := hpost
    have HNO := Lib.hid (HEQ0.out.trans (adv_cat_none hR _))
    have HCH := Lib.hid (HW0.out.fell hch)
    clear hR hch
    unfold boom
    go_wp2
    refine ⟨rfl, ?_⟩
    rw [HNO.out]
    exact ⟨rfl, HCH.out⟩
  | some T1 =>
    rw [hR] at hpost
    obtain ⟨rfl, u1, hwent⟩ := hpost
    have HW1 := Lib.hid (HW0.out.trans hwent)
    have HEQ1 := Lib.hid (HEQ0.out.trans (adv_cat_some hR _))
    have hb1 : w1.heap[w.heap.size]? = some (.cells #[.string (strOf ty)] 9 (0, 0)) := (hwent.2.2.block _ (lt_of_heap HBLK.out) HNB.out).trans HBLK.out
    have HBLK1 := Lib.hid hb1
    have d1 := cell_of_row w1 w.heap.size 0 _ _ (0, 0) hb1
    simp at d1
    clear hb1
    clear hwent hR
    have hsz : (strOf ty).size ≤ 40000 := by rw [Lib.size_eq, strOf_data]; exact HTY.out
    have HTN := Lib.hid (takeName_yes ⟨w.heap.size, 0, none⟩ (strOf ty) w1 d1 (frozen_of_row _ w.heap.size 0 _ _ HBLK1.out) hsz hq)
    clear hsz
    go_wp2_with fail
    refine HTN.out.mono ?_
    rintro e2 w2 ⟨rfl, wm, hbl, hw2⟩
    have hlt1 : w.heap.size < w1.heap.size := lt_of_heap HBLK1.out
    have hnm1 : ¬ Mine Bc Ba u1 w.heap.size := fun hm => by
      rcases hm with hm | hm | hm
      · exact HNB.out (.inl hm)
      · exact HNB.out (.inr (.inl hm))
      · obtain ⟨_, cur, hg⟩ := HW1.out.1.own.blk hm
        rw [HBLK1.out] at hg; simp at hg
    have HW2 : Hid (Went w Bc Ba B u w2 u1 T1) := Lib.hid (by rw [hw2]; exact (HW1.out.below hbl).setCell _ _ (Nat.le_refl _) hnm1)
    clear hbl hw2 hnm1 hlt1 d1
    obtain ⟨u2, hu2⟩ : ∃ u2, u2 = u1 := ⟨_, rfl⟩
    obtain ⟨T2, hT2⟩ : ∃ T2, T2 = T1 := ⟨_, rfl⟩
    rw [← hu2, ← hT2] at HW2
    rw [← hT2] at HEQ1
    have HEQ2 := HEQ1
    clear hu2 hT2
    go_wp2_with fail
    refine (put_new (Went.refl HW2.out.1) (Nat.le_trans hB HW2.out.2.2.size) [ty, [61]] (by intro t ht; simp at ht; have := HNM.out; have := HTY.out; first | (rcases ht with rfl | rfl <;> first | assumption | decide) | (rw [ht]; assumption)) (by simp)).mono ?_
    rintro e3 w3 hpost
    cases hR : adv T2 (some [ty, [61]]) with
    | none =>
      rw [hR] at hpost
      obtain ⟨rfl, hch⟩ := hpost
      have HNO := Lib.hid (HEQ2.out.trans (adv_cat_none hR _))
      have HCH := Lib.hid (HW2.out.fell hch)
      clear hR hch
      unfold boom
      go_wp2
      refine ⟨rfl, ?_⟩
      rw [HNO.out]
      exact ⟨rfl, HCH.out⟩
    | some T3 =>
      rw [hR] at hpost
      obtain ⟨rfl, u3, hwent⟩ := hpost
      have HW3 := Lib.hid (HW2.out.trans hwent)
      have HEQ3 := Lib.hid (HEQ2.out.trans (adv_cat_some hR _))
      
      clear hwent hR
      go_wp2_with fail
      refine (put_new (Went.refl HW3.out.1) (Nat.le_trans hB HW3.out.2.2.size) [nm] (by intro t ht; simp at ht; have := HNM.out; have := HTY.out; first | (rcases ht with rfl | rfl <;> first | assumption | decide) | (rw [ht]; assumption)) (by simp)).mono ?_
      rintro e4 w4 hpost
      cases hR : adv T3 (some [nm]) with
      | none =>
        rw [hR] at hpost
        obtain ⟨rfl, hch⟩ := hpost
        have HNO := Lib.hid (HEQ3.out.trans (adv_cat_none hR _))
        have HCH := Lib.hid (HW3.out.fell hch)
        clear hR hch
        unfold boom
        go_wp2
        refine ⟨rfl, ?_⟩
        rw [HNO.out]
        exact ⟨rfl, HCH.out⟩
      | some T4 =>
        rw [hR] at hpost
        obtain ⟨rfl, u4, hwent⟩ := hpost
        have HW4 := Lib.hid (HW3.out.trans hwent)
        have HEQ4 := Lib.hid (HEQ3.out.trans (adv_cat_some hR _))
        
        clear hwent hR
        have hb04 : Below B w0 w4 := HB.out.trans (HW4.out.2.2.below hB (fun x hx => (HP.out.mine hx).1))
        have HAR := Lib.hid (args_any hb04 (Nat.le_trans hB HW4.out.2.2.size) HW4.out.1 es HR0.out D hD0 hD)
        clear hb04
        unfold penV at HAR
        go_wp2_with fail
        refine (HAR.out).mono ?_
        rintro e5 w5 hpost
        cases hR : adv T4 (argsC es D) with
        | none =>
          rw [hR] at hpost
          obtain ⟨rfl, hch⟩ := hpost
          have HNO := Lib.hid (HEQ4.out.trans (adv_cat_none hR _))
          have HCH := Lib.hid (HW4.out.fell hch)
          clear hR hch
          unfold boom
          go_wp2
          refine ⟨rfl, ?_⟩
          rw [HNO.out]
          exact ⟨rfl, HCH.out⟩
        | some T5 =>
          rw [hR] at hpost
          obtain ⟨rfl, u5, hwent⟩ := hpost
          have HW5 := Lib.hid (HW4.out.trans hwent)
          have HEQ5 := Lib.hid (HEQ4.out.trans (adv_cat_some hR _))
          
          clear hwent hR
          go_wp2_with fail
          refine (put_new (Went.refl HW5.out.1) (Nat.le_trans hB HW5.out.2.2.size) [[59]] (by intro t ht; simp at ht; rw [ht]; decide) (by simp)).mono ?_
          rintro e9 w9 hpost
          cases hR : adv T5 (some [[59]]) with
          | none =>
            rw [hR] at hpost
            obtain ⟨rfl, hch⟩ := hpost
            have HNO := Lib.hid (HEQ5.out.trans hR)
            have HCH := Lib.hid (HW5.out.fell hch)
            clear hR hch
            unfold boom
            go_wp2
            refine ⟨rfl, ?_⟩
            rw [HNO.out]
            exact ⟨rfl, HCH.out⟩
          | some T9 =>
            rw [hR] at hpost
            obtain ⟨rfl, u9, hwent⟩ := hpost
            have HW9 := Lib.hid (HW5.out.trans hwent)
            have HFIN := Lib.hid (HEQ5.out.trans hR)
            clear hwent hR
            go_wp2
            go_end0
            rw [HFIN.out]
            exact ⟨rfl, u9, HW9.out⟩
set_option maxRecDepth 100000 in
set_option maxHeartbeats 2000000 in
theorem call_no {w0 w : World} {Bc Ba B : Nat} {u : Value} {T0 : List (List UInt8)} (hb : Below B w0 w) (hB : B ≤ w.heap.size) (hp : PenAt w Bc Ba B u T0) (ty nm : List UInt8) (hty : ty.length ≤ 40000) (hnm : nm.length ≤ 40000) (es : List Ex) {V : Value} (hr : Reads w0 B es V) (D : Int) (hD0 : 0 ≤ D) (hD : D ≤ 100) (h0 : ¬ ty = []) (hq : nameB ty = false) :
    Calls Tryd.prog 73 #[penV Bc Ba, .string (strOf ty), .string (strOf nm), V, .int .i64 D] w (PenPost w Bc Ba B u (adv T0 (callC ty nm es D))) := by
  obtain ⟨A, c, hrv, _, _, _⟩ := id hr
  subst hrv
  obtain ⟨X, hX⟩ : ∃ X : World, X = w.alloc (.cells #[.string (strOf ty)] 9) := ⟨_, rfl⟩
  have hblk : X.heap[w.heap.size]? = some (.cells #[.string (strOf ty)] 9 (0, 0)) := by rw [hX]; exact heap_alloc_new _ _
  have hw : Went w Bc Ba B u X u T0 := by rw [hX]; exact (Went.refl hp).alloc _
  have hst := strOf_toList ty
  have c0 := cell_of_row X w.heap.size 0 _ _ (0, 0) hblk
  simp at c0
  have HP := Lib.hid hp
  have HB := Lib.hid hb
  have HR0 := Lib.hid hr
  have HW0 := Lib.hid hw
  have HX := Lib.hid hX
  have HXS : Hid (w.heap.size + 1 = X.heap.size) := Lib.hid (by rw [hX]; simp)
  have HBLK := Lib.hid hblk
  have HST := Lib.hid hst
  have HTY := Lib.hid hty
  have HNM := Lib.hid hnm
  have hnb : ¬ Mine Bc Ba u w.heap.size := fun hm => by have := (hp.mine hm).2; omega
  have HNB := Lib.hid hnb
  have HEQ0 : Hid (adv T0 (callC ty nm es D) = adv T0 (cat (some [[99, 97, 108, 108]]) none)) := Lib.hid (by unfold callC; rw [if_neg h0, need_no (by simp [hq]), cat_none_l, cat_none_l])
  have hs0 : ¬ (strOf ty).toList = [] := by rw [hst]; exact h0
  have hs1 : (!(strOf ty).toList.isEmpty) = true := by rw [Bool.not_eq_true', List.isEmpty_eq_false_iff]; exact hs0
  clear hX hblk hw hst hp hb hr hty hnm hnb h0
  unfold penV
  go_enter Tryd.func73, Tryd.ntmps73
  go_wp2_with fail
  rw [← HX.out, HXS.out]
  refine (put_new (Went.refl HW0.out.1) (Nat.le_trans hB HW0.out.2.2.size) [[99, 97, 108, 108]] (by intro t ht; simp at ht; rw [ht]; decide) (by simp)).mono ?_
  rintro e1 w1 hpost
  cases hR : adv T0 (some [[99, 97, 108, 108]]) with
  | none =>
    rw [hR] at hpost
    obtain ⟨rfl, hch⟩ := hpost
    have HNO := Lib.hid (HEQ0.out.trans (adv_cat_none hR _))
    have HCH := Lib.hid (HW0.out.fell hch)
    clear hR hch
    unfold boom
    go_wp2
    refine ⟨rfl, ?_⟩
    rw [HNO.out]
    exact ⟨rfl, HCH.out⟩
  | some T1 =>
    rw [hR] at hpost
    obtain ⟨rfl, u1, hwent⟩ := hpost
    have HW1 := Lib.hid (HW0.out.trans hwent)
    have HEQ1 := Lib.hid (HEQ0.out.trans (adv_cat_some hR _))
    have hb1 : w1.heap[w.heap.size]? = some (.cells #[.string (strOf ty)] 9 (0, 0)) := (hwent.2.2.block _ (lt_of_heap HBLK.out) HNB.out).trans HBLK.out
    have HBLK1 := Lib.hid hb1
    have d1 := cell_of_row w1 w.heap.size 0 _ _ (0, 0) hb1
    simp at d1
    clear hb1
    clear hwent hR
    have hsz : (strOf ty).size ≤ 40000 := by rw [Lib.size_eq, strOf_data]; exact HTY.out
    have HTN := Lib.hid (takeName_no ⟨w.heap.size, 0, none⟩ (strOf ty) w1 d1 hsz hq)
    clear hsz
    go_wp2_with fail
    refine HTN.out.mono ?_
    rintro e2 w2 ⟨rfl, hbl⟩
    have HNO := Lib.hid (HEQ1.out.trans (adv_none _))
    have HCH := Lib.hid (HW1.out.2.2.trans (Chg.of_below (P := fun _ => False) hbl) (fun _ _ e => e.elim))
    clear hbl
    unfold boom
    go_wp2
    refine ⟨rfl, ?_⟩
    rw [HNO.out]
    exact ⟨rfl, HCH.out⟩
theorem call_any {w0 w : World} {Bc Ba B : Nat} {u : Value} {T : List (List UInt8)} (hb : Below B w0 w) (hB : B ≤ w.heap.size) (hp : PenAt w Bc Ba B u T) (ty nm : List UInt8) (hty : ty.length ≤ 40000) (hnm : nm.length ≤ 40000) (es : List Ex) {V : Value} (hr : Reads w0 B es V) (D : Int) (hD0 : 0 ≤ D) (hD : D ≤ 100) :
    Calls Tryd.prog 73 #[penV Bc Ba, .string (strOf ty), .string (strOf nm), V, .int .i64 D] w (PenPost w Bc Ba B u (adv T (callC ty nm es D))) := by
  by_cases h0 : ty = []
  · exact call_none hb hB hp ty nm hty hnm es hr D hD0 hD h0
  · cases hq : nameB ty with
    | true => exact call_yes hb hB hp ty nm hty hnm es hr D hD0 hD h0 hq
    | false => exact call_no hb hB hp ty nm hty hnm es hr D hD0 hD h0 hq
end Go.Proofs.YtihjdfbdpcghdaaDoor
