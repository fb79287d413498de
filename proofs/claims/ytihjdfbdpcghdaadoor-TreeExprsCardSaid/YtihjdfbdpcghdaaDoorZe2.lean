/- Xa -/
import Derived.Test.YtihjdfbdpcghdaaDoorZd9
import Derived.IntWalk
set_option linter.unusedVariables false
namespace Go.Proofs.YtihjdfbdpcghdaaDoor
open Go.RowKit
set_option maxRecDepth 100000 in
set_option maxHeartbeats 1000000 in
theorem pair_any {w : World} {Bc Ba B : Nat} {u : Value} {T : List (List UInt8)} (hp : PenAt w Bc Ba B u T) (hB : B ≤ w.heap.size) (n t : List UInt8) (hn : n.length ≤ 40000) (ht : t.length ≤ 40000) :
    Calls Tryd.prog 60 #[penV Bc Ba, .agg #[.string (strOf n), .string (strOf t)]] w (PenPost w Bc Ba B u (adv T (cat (nmT n) (tyT t)))) := by
  obtain ⟨X, hX⟩ : ∃ X : World, X = w.alloc (.cells #[.string (strOf n), .string (strOf t)] 93) := ⟨_, rfl⟩
  have hblk : X.heap[w.heap.size]? = some (.cells #[.string (strOf n), .string (strOf t)] 93 (0, 0)) := by rw [hX]; exact heap_alloc_new _ _
  have hw : Went w Bc Ba B u X u T := by rw [hX]; exact (Went.refl hp).alloc _
  have hsz : (strOf n).size ≤ 40000 := by rw [Lib.size_eq, strOf_data]; exact hn
  have c0 := cell_of_row X w.heap.size 0 _ _ (0, 0) hblk
  simp at c0
  have z0 := frozen_of_row X w.heap.size 0 _ _ hblk
  have hnm : ¬ Mine Bc Ba u w.heap.size := fun hm => by have := (hp.mine hm).2; omega
  have HP := Lib.hid hp
  have HX := Lib.hid hX
  have HW := Lib.hid hw
  have HBLK := Lib.hid hblk
  have HNM := Lib.hid hnm
  have HN := Lib.hid hn
  have HT := Lib.hid ht
  cases hq : nameB n with
  | false =>
    have HNO : Hid (adv T (cat (nmT n) (tyT t)) = none) := Lib.hid (by unfold nmT; rw [if_neg (by simp [hq])]; rfl)
    have HTN := Lib.hid (takeName_no ⟨w.heap.size, 0, none⟩ (strOf n) X c0 hsz hq)
    clear hX hblk hw hsz c0 z0 hnm hp hn ht
    unfold penV
    go_enter Tryd.func60, Tryd.ntmps60
    go_wp2_with fail
    rw [← HX.out]
    refine HTN.out.mono ?_
    rintro e w1 ⟨rfl, hbl⟩
    have HCH := Lib.hid (HW.out.2.2.trans (Chg.of_below (P := fun _ => False) hbl) (fun _ _ e => e.elim))
    clear hbl
    unfold boom
    go_wp2
    refine ⟨rfl, ?_⟩
    rw [HNO.out]
    exact ⟨rfl, HCH.out⟩
  | true =>
    have HEQ : Hid (adv T (cat (nmT n) (tyT t)) = adv T (cat (some [n]) (tyT t))) := Lib.hid (by unfold nmT; rw [if_pos hq])
    have HTN := Lib.hid (takeName_yes ⟨w.heap.size, 0, none⟩ (strOf n) X c0 z0 hsz hq)
    clear hX hblk hw hsz c0 z0 hnm hp hn ht
    unfold penV
    go_enter Tryd.func60, Tryd.ntmps60
    go_wp2_with fail
    rw [← HX.out]
    refine HTN.out.mono ?_
    rintro e w2 ⟨rfl, wm, hbl, hw2⟩
    have hbm : wm.heap[w.heap.size]? = some (.cells #[.string (strOf n), .string (strOf t)] 93 (0, 0)) := (hbl.block _ (lt_of_heap HBLK.out)).trans HBLK.out
    have hb2 : w2.heap[w.heap.size]? = some (.cells #[.string ⟨#[]⟩, .string (strOf t)] 93 (0, 0)) := by
      rw [hw2]; simp [World.setCell, Array.getElem?_modify, hbm]
    have HW2 : Hid (Went w Bc Ba B u w2 u T) := Lib.hid (by rw [hw2]; exact (HW.out.below hbl).setCell _ _ (Nat.le_refl _) HNM.out)
    have HB2 := Lib.hid hb2
    clear hbl hw2 hbm hb2
    go_wp2_with fail
    refine (put_new (Went.refl HW2.out.1) (Nat.le_trans hB HW2.out.2.2.size) [n] (by intro x hx; simp at hx; rw [hx]; exact HN.out) (by simp)).mono ?_
    rintro e3 w3 hpost
    cases hR : adv T (some [n]) with
    | none =>
      rw [hR] at hpost
      obtain ⟨rfl, hch⟩ := hpost
      have HNO := Lib.hid (HEQ.out.trans (adv_cat_none hR _))
      have HCH := Lib.hid (HW2.out.fell hch)
      clear hR hch
      unfold boom
      go_wp2
      refine ⟨rfl, ?_⟩
      rw [HNO.out]
      exact ⟨rfl, HCH.out⟩
    | some T3 =>
      rw [hR] at hpost
      obtain ⟨rfl, u3, hwent⟩ := hpost
      have HW3 := Lib.hid (HW2.out.trans hwent)
      have HEQ3 := Lib.hid (HEQ.out.trans (adv_cat_some hR _))
      have hb3 := (hwent.2.2.block _ (lt_of_heap HB2.out) HNM.out).trans HB2.out
      have c1 := cell_of_row w3 w.heap.size 1 _ _ (0, 0) hb3
      simp at c1
      clear hwent hR hb3
      have HTY := Lib.hid (types_any HW3.out.1 (Nat.le_trans hB HW3.out.2.2.size) t HT.out)
      unfold penV at HTY
      go_wp2_with fail
      refine HTY.out.mono ?_
      rintro e4 w4 hpost
      cases hR : adv T3 (tyT t) with
      | none =>
        rw [hR] at hpost
        obtain ⟨rfl, hch⟩ := hpost
        have HNO := Lib.hid (HEQ3.out.trans hR)
        have HCH := Lib.hid (HW3.out.fell hch)
        clear hR hch
        unfold boom
        go_wp2
        refine ⟨rfl, ?_⟩
        rw [HNO.out]
        exact ⟨rfl, HCH.out⟩
      | some T4 =>
        rw [hR] at hpost
        obtain ⟨rfl, u4, hwent⟩ := hpost
        have HW4 := Lib.hid (HW3.out.trans hwent)
        have HFIN := Lib.hid (HEQ3.out.trans hR)
        clear hwent hR
        go_wp2
        go_end0
        rw [HFIN.out]
        exact ⟨rfl, u4, HW4.out⟩
end Go.Proofs.YtihjdfbdpcghdaaDoor
