/- Xa; Xb; Xc; Xd; Xe -/
import Derived.Test.YtmbkjabjcphkbaaDoorZb0
import Derived.Test.YtmbkjabjcphkbaaDoorZa2
section
/- The walk of a name with its type. -/
set_option linter.unusedVariables false
namespace Go.Proofs.YtmbkjabjcphkbaaDoor
open Go.RowKit

set_option maxRecDepth 100000 in
set_option maxHeartbeats 1000000 in
theorem pair_any {w : World} {Bc Ba B : Nat} {u : Value} {T : List (List UInt8)} (hp : PenAt w Bc Ba B u T) (hB : B ≤ w.heap.size) (n t : List UInt8) (hn : n.length ≤ 40000) (ht : t.length ≤ 40000) :
    Calls Tryd.prog 114 #[penV Bc Ba, .agg #[.string (strOf n), .string (strOf t)]] w (PenPost w Bc Ba B u (adv T (cat (nmT n) (tyT t)))) := by
  obtain ⟨X, hX⟩ : ∃ X : World, X = w.alloc (.cells #[.string (strOf n), .string (strOf t)] 71) := ⟨_, rfl⟩
  have hblk : X.heap[w.heap.size]? = some (.cells #[.string (strOf n), .string (strOf t)] 71 (0, 0)) := by rw [hX]; exact heap_alloc_new _ _
  have hw : Went w Bc Ba B u X u T := by rw [hX]; exact (Went.refl hp).alloc _
  have hsz : (strOf n).size ≤ 40000 := by rw [Lib.size_eq, strOf_data]; exact hn
  have c0 := cell_of_row X w.heap.size 0 _ _ (0, 0) hblk
  simp at c0
  have z0 := frozen_of_row X w.heap.size 0 _ _ hblk
  have hnm : ¬ Mine Bc Ba u w.heap.size := fun hm => by have := (hp.mine hm).2; omega
  have HP := Lib.hid hp
  have HX := Lib.hid hX
  have HW := Lib.hid hw
  have HBLK := Lib.hid hblk
  have HNM := Lib.hid hnm
  have HN := Lib.hid hn
  have HT := Lib.hid ht
  cases hq : nameB n with
  | false =>
    have HNO : Hid (adv T (cat (nmT n) (tyT t)) = none) := Lib.hid (by unfold nmT; rw [if_neg (by simp [hq])]; rfl)
    have HTN := Lib.hid (takeName_no ⟨w.heap.size, 0, none⟩ (strOf n) X c0 hsz hq)
    clear hX hblk hw hsz c0 z0 hnm hp hn ht
    unfold penV
    go_enter Tryd.func114, Tryd.ntmps114
    go_wp2_with fail
    rw [← HX.out]
    refine HTN.out.mono ?_
    rintro e w1 ⟨rfl, hbl⟩
    have HCH := Lib.hid (HW.out.2.2.trans (Chg.of_below (P := fun _ => False) hbl) (fun _ _ e => e.elim))
    clear hbl
    unfold boom
    go_wp2
    refine ⟨rfl, ?_⟩
    rw [HNO.out]
    exact ⟨rfl, HCH.out⟩
  | true =>
    have HEQ : Hid (adv T (cat (nmT n) (tyT t)) = adv T (cat (some [n]) (tyT t))) := Lib.hid (by unfold nmT; rw [if_pos hq])
    have HTN := Lib.hid (takeName_yes ⟨w.heap.size, 0, none⟩ (strOf n) X c0 z0 hsz hq)
    clear hX hblk hw hsz c0 z0 hnm hp hn ht
    unfold penV
    go_enter Tryd.func114, Tryd.ntmps114
    go_wp2_with fail
    rw [← HX.out]
    refine HTN.out.mono ?_
    rintro e w2 ⟨rfl, wm, hbl, hw2⟩
    have hbm : wm.heap[w.heap.size]? = some (.cells #[.string (strOf n), .string (strOf t)] 71 (0, 0)) := (hbl.block _ (lt_of_heap HBLK.out)).trans HBLK.out
    have hb2 : w2.heap[w.heap.size]? = some (.cells #[.string ⟨#[]⟩, .string (strOf t)] 71 (0, 0)) := by
      rw [hw2]; simp [World.setCell, Array.getElem?_modify, hbm]
    have HW2 : Hid (Went w Bc Ba B u w2 u T) := Lib.hid (by rw [hw2]; exact (HW.out.below hbl).setCell _ _ (Nat.le_refl _) HNM.out)
    have HB2 := Lib.hid hb2
    clear hbl hw2 hbm hb2
    go_wp2_with fail
    refine (put_new (Went.refl HW2.out.1) (Nat.le_trans hB HW2.out.2.2.size) [n] (by intro x hx; simp at hx; rw [hx]; exact HN.out) (by simp)).mono ?_
    rintro e3 w3 hpost
    cases hR : adv T (some [n]) with
    | none =>
      rw [hR] at hpost
      obtain ⟨rfl, hch⟩ := hpost
      have HNO := Lib.hid (HEQ.out.trans (adv_cat_none hR _))
      have HCH := Lib.hid (HW2.out.fell hch)
      clear hR hch
      unfold boom
      go_wp2
      refine ⟨rfl, ?_⟩
      rw [HNO.out]
      exact ⟨rfl, HCH.out⟩
    | some T3 =>
      rw [hR] at hpost
      obtain ⟨rfl, u3, hwent⟩ := hpost
      have HW3 := Lib.hid (HW2.out.trans hwent)
      have HEQ3 := Lib.hid (HEQ.out.trans (adv_cat_some hR _))
      have hb3 := (hwent.2.2.block _ (lt_of_heap HB2.out) HNM.out).trans HB2.out
      have c1 := cell_of_row w3 w.heap.size 1 _ _ (0, 0) hb3
      simp at c1
      clear hwent hR hb3
      have HTY := Lib.hid (types_any HW3.out.1 (Nat.le_trans hB HW3.out.2.2.size) t HT.out)
      unfold penV at HTY
      go_wp2_with fail
      refine HTY.out.mono ?_
      rintro e4 w4 hpost
      cases hR : adv T3 (tyT t) with
      | none =>
        rw [hR] at hpost
        obtain ⟨rfl, hch⟩ := hpost
        have HNO := Lib.hid (HEQ3.out.trans hR)
        have HCH := Lib.hid (HW3.out.fell hch)
        clear hR hch
        unfold boom
        go_wp2
        refine ⟨rfl, ?_⟩
        rw [HNO.out]
        exact ⟨rfl, HCH.out⟩
      | some T4 =>
        rw [hR] at hpost
        obtain ⟨rfl, u4, hwent⟩ := hpost
        have HW4 := Lib.hid (HW3.out.trans hwent)
        have HFIN := Lib.hid (HEQ3.out.trans hR)
        clear hwent hR
        go_wp2
        go_end0
        rw [HFIN.out]
        exact ⟨rfl, u4, HW4.out⟩

end Go.Proofs.YtmbkjabjcphkbaaDoor
end
section
/- The walks of fields and of parameters. -/
set_option linter.unusedVariables false
namespace Go.Proofs.YtmbkjabjcphkbaaDoor
open Go.RowKit

theorem pair_pr {w : World} {Bc Ba B : Nat} {u : Value} {T : List (List UInt8)} (hp : PenAt w Bc Ba B u T) (hB : B ≤ w.heap.size) (E : Pr) (hn : E.name.length ≤ 40000) (ht : E.type.length ≤ 40000) :
    Calls Tryd.prog 114 #[penV Bc Ba, .agg #[.string (strOf E.name), .string (strOf E.type)]] w (PenPost w Bc Ba B u (adv T (penPr E))) := pair_any hp hB E.name E.type hn ht
theorem penFs_drop {ps : List Pr} {j : Nat} (h : j < ps.length) : penFs (ps.drop j) = cat (penPr ps[j]) (cat (some [[59]]) (penFs (ps.drop (j + 1)))) := by
  rw [List.drop_eq_getElem_cons h, penFs, cat_assoc]
set_option maxRecDepth 100000 in
set_option maxHeartbeats 2000000 in
theorem fields_any {w0 w : World} {Bc Ba B : Nat} {u : Value} {T : List (List UInt8)} (hb : Below B w0 w) (hB : B ≤ w.heap.size) (hp : PenAt w Bc Ba B u T) (ps : List Pr) {V : Value} (hr : PrsIn w0 (· < B) ps V) (hsm : ∀ p ∈ ps, p.name.length ≤ 40000 ∧ p.type.length ≤ 40000) :
    Calls Tryd.prog 87 #[penV Bc Ba, V] w (PenPost w Bc Ba B u (adv T (need (ps.length ≤ 8) (cat (some [[123]]) (cat (penFs ps) (some [[125]])))))) := by
  obtain ⟨A, c, rfl, hc, hM, hA⟩ := hr
  obtain ⟨n, hn⟩ : ∃ n, n = ps.length := ⟨_, rfl⟩
  obtain ⟨Q, hQ⟩ : ∃ Q : Ts, Q = need (ps.length ≤ 8) (cat (some [[123]]) (cat (penFs ps) (some [[125]]))) := ⟨_, rfl⟩
  rw [← hn] at hc
  rw [← hQ, ← hn]
  by_cases h4 : n ≤ 8
  · have h4' : decide ((n : Int) ≤ 8) = true := by rw [decide_eq_true_eq]; omega
    have HEQ : Hid (adv T Q = adv T (cat (some [[123]]) (cat (penFs ps) (some [[125]])))) := Lib.hid (by rw [hQ, need_yes (by omega)])
    have HN := Lib.hid hn
    have HA := Lib.hid hA
    have HP := Lib.hid hp
    have HBB := Lib.hid hb
    have HSM := Lib.hid hsm
    unfold penV
    clear hn hA h4 hp hb hsm hQ
    go_enter Tryd.func87, Tryd.ntmps87
    go_wp2_with fail
    refine (must_yes _).mono ?_
    rintro e w1 ⟨rfl, rfl⟩
    go_wp2_with fail
    refine (put_new (Went.refl HP.out) hB [[123]] (by simp) (by simp)).mono ?_
    rintro e1 w1 hpost
    cases hR : adv T (some [[123]]) with
    | none =>
      rw [hR] at hpost
      obtain ⟨rfl, hch⟩ := hpost
      have HNO := Lib.hid (HEQ.out.trans (adv_cat_none hR _))
      clear hR
      unfold boom
      go_wp2
      refine ⟨rfl, ?_⟩
      rw [HNO.out]
      exact ⟨rfl, hch⟩
    | some T1 =>
      rw [hR] at hpost
      obtain ⟨rfl, u1, hwent⟩ := hpost
      have HW1 := Lib.hid hwent
      have HEQ1 := Lib.hid (HEQ.out.trans (adv_cat_some hR _))
      clear hwent hR
      go_wp2_with fail
      go_loopw [15] (fun i wr => ∃ (j : Nat) (u' : Value) (T' : List (List UInt8)), j ≤ n ∧ i = .int .i64 j ∧ Hid (Went w Bc Ba B u wr u' T') ∧ Hid (adv T Q = adv T' (cat (penFs (ps.drop j)) (some [[125]])))) (fun i _ => n - (intOf i).toNat)
      case atStart => exact ⟨0, u1, T1, Nat.zero_le _, rfl, HW1, HEQ1⟩
      case round =>
        obtain ⟨wo, rfl⟩ : ∃ wo : World, wo = wr := ⟨_, rfl⟩
        obtain ⟨j, u2, T2, hj, rfl, HW2, HEQ2⟩ := hrel
        by_cases hlt : j < n
        · have hjt : j < ps.length := by rw [← HN.out]; exact hlt
          obtain ⟨b, off, rfl, hbB, _, _, r0, r1⟩ := HA.out j hjt
          have hbw : Below B w0 wo := HBB.out.trans (HW2.out.2.2.below hB (fun x hx => (HP.out.mine hx).1))
          have r0 := (hbw.cell (p := ⟨b, off + j * 2, none⟩) hbB).trans r0
          have r1 := (hbw.cell (p := ⟨b, off + j * 2 + 1, none⟩) hbB).trans r1
          obtain ⟨s1, s2⟩ := HSM.out ps[j] (List.getElem_mem _)
          have hdr := penFs_drop hjt
          obtain ⟨E, hE⟩ : ∃ E, E = ps[j] := ⟨_, rfl⟩
          rw [← hE] at r0 r1 hdr s1 s2
          clear hE
          obtain ⟨Y, hY⟩ : ∃ Y : World, Y = wo.alloc (.cells #[.string (strOf E.name), .string (strOf E.type)] 71) := ⟨_, rfl⟩
          have HW3 : Hid (Went w Bc Ba B u Y u2 T2) := Lib.hid (by rw [hY]; exact HW2.out.alloc _)
          have HY := Lib.hid hY
          have HS1 := Lib.hid s1
          have HS2 := Lib.hid s2
          obtain ⟨T3, hT3⟩ : ∃ T3, T3 = T2 := ⟨_, rfl⟩
          obtain ⟨u3, hu3⟩ : ∃ u3, u3 = u2 := ⟨_, rfl⟩
          rw [← hT3, ← hu3] at HW3
          have HEQ3 : Hid (adv T Q = adv T3 (cat (penPr E) (cat (some [[59]]) (cat (penFs (ps.drop (j + 1))) (some [[125]]))))) := Lib.hid (by rw [HEQ2.out, hT3, hdr, cat_assoc, cat_assoc])
          have HPR := Lib.hid (pair_pr HW3.out.1 (Nat.le_trans hB HW3.out.2.2.size) E s1 s2)
          clear hY hdr hbw s1 s2 hT3 hu3
          unfold penV at HPR
          go_wp2_with fail
          rw [← HY.out]
          refine (HPR.out).mono ?_
          rintro e4 w4 hpost
          cases hR : adv T3 (penPr E) with
          | none =>
            rw [hR] at hpost
            obtain ⟨rfl, hch⟩ := hpost
            have HNO := Lib.hid (HEQ3.out.trans (adv_cat_none hR _))
            have HCH := Lib.hid (HW3.out.fell hch)
            clear hR hch
            unfold boom
            go_wp2
            refine ⟨rfl, ?_⟩
            rw [HNO.out]
            exact ⟨rfl, HCH.out⟩
          | some T4 =>
            rw [hR] at hpost
            obtain ⟨rfl, u4, hwent⟩ := hpost
            have HW4 := Lib.hid (HW3.out.trans hwent)
            have HEQ4 := Lib.hid (HEQ3.out.trans (adv_cat_some hR _))

            clear hwent hR
            go_wp2_with fail
            refine (put_new (Went.refl HW4.out.1) (Nat.le_trans hB HW4.out.2.2.size) [[59]] (by simp) (by simp)).mono ?_
            rintro e5 w5 hpost
            cases hR : adv T4 (some [[59]]) with
            | none =>
              rw [hR] at hpost
              obtain ⟨rfl, hch⟩ := hpost
              have HNO := Lib.hid (HEQ4.out.trans (adv_cat_none hR _))
              have HCH := Lib.hid (HW4.out.fell hch)
              clear hR hch
              unfold boom
              go_wp2
              refine ⟨rfl, ?_⟩
              rw [HNO.out]
              exact ⟨rfl, HCH.out⟩
            | some T5 =>
              rw [hR] at hpost
              obtain ⟨rfl, u5, hwent⟩ := hpost
              have HW5 := Lib.hid (HW4.out.trans hwent)
              have HEQ5 := Lib.hid (HEQ4.out.trans (adv_cat_some hR _))

              clear hwent hR
              go_wp2_with fail
              go_roundw
              case rel => exact ⟨j + 1, u5, T5, by omega, by go_num, HW5, HEQ5⟩
              case measure => simp [intOf]; omega
        · have hjn : j = n := by omega
          subst hjn
          have hdn : ps.drop j = [] := List.drop_of_length_le (by rw [HN.out]; exact Nat.le_refl _)
          have HEQ3 : Hid (adv T Q = adv T2 (some [[125]])) := Lib.hid (by rw [HEQ2.out, hdn, penFs, cat_nil_l])
          clear hdn
          go_wp2_with fail
          refine (put_new (Went.refl HW2.out.1) (Nat.le_trans hB HW2.out.2.2.size) [[125]] (by simp) (by simp)).mono ?_
          rintro e4 w4 hpost
          cases hR : adv T2 (some [[125]]) with
          | none =>
            rw [hR] at hpost
            obtain ⟨rfl, hch⟩ := hpost
            have HNO := Lib.hid (HEQ3.out.trans hR)
            have HCH := Lib.hid (HW2.out.fell hch)
            clear hR hch
            unfold boom
            go_wp2
            refine ⟨rfl, ?_⟩
            rw [HNO.out]
            exact ⟨rfl, HCH.out⟩
          | some T4 =>
            rw [hR] at hpost
            obtain ⟨rfl, u4, hwent⟩ := hpost
            have HW4 := Lib.hid (HW2.out.trans hwent)
            have HFIN := Lib.hid (HEQ3.out.trans hR)
            clear hwent hR
            go_wp2
            go_end0
            rw [HFIN.out]
            exact ⟨rfl, u4, HW4.out⟩
  · have h4' : decide ((n : Int) ≤ 8) = false := by rw [decide_eq_false_iff_not]; omega
    have HNO : Hid (adv T Q = none) := Lib.hid (by rw [hQ, need_no (by omega)]; rfl)
    clear hn hA h4 hp hb hQ
    unfold penV
    go_enter Tryd.func87, Tryd.ntmps87
    go_wp2_with fail
    refine (must_no _).mono ?_
    rintro e w1 ⟨rfl, rfl⟩
    unfold boom
    go_wp2
    refine ⟨rfl, ?_⟩
    rw [HNO.out]
    exact ⟨rfl, Chg.refl _ _⟩
theorem penPs_drop {ps : List Pr} {j : Nat} (h : j < ps.length) : penPs (ps.drop j) j = cat (some (if j = 0 then [] else [[44]])) (cat (penPr ps[j]) (penPs (ps.drop (j + 1)) (j + 1))) := by
  rw [List.drop_eq_getElem_cons h, penPs, cat_assoc]
set_option maxRecDepth 100000 in
set_option maxHeartbeats 2000000 in
theorem params_any {w0 w : World} {Bc Ba B : Nat} {u : Value} {T : List (List UInt8)} (hb : Below B w0 w) (hB : B ≤ w.heap.size) (hp : PenAt w Bc Ba B u T) (ps : List Pr) {V : Value} (hr : PrsIn w0 (· < B) ps V) (hsm : ∀ p ∈ ps, p.name.length ≤ 40000 ∧ p.type.length ≤ 40000) :
    Calls Tryd.prog 89 #[penV Bc Ba, V] w (PenPost w Bc Ba B u (adv T (need (ps.length ≤ 4) (cat (some [[40]]) (cat (penPs ps 0) (some [[41]])))))) := by
  obtain ⟨A, c, rfl, hc, hM, hA⟩ := hr
  obtain ⟨n, hn⟩ : ∃ n, n = ps.length := ⟨_, rfl⟩
  obtain ⟨Q, hQ⟩ : ∃ Q : Ts, Q = need (ps.length ≤ 4) (cat (some [[40]]) (cat (penPs ps 0) (some [[41]]))) := ⟨_, rfl⟩
  rw [← hn] at hc
  rw [← hQ, ← hn]
  by_cases h4 : n ≤ 4
  · have h4' : decide ((n : Int) ≤ 4) = true := by rw [decide_eq_true_eq]; omega
    have HEQ : Hid (adv T Q = adv T (cat (some [[40]]) (cat (penPs ps 0) (some [[41]])))) := Lib.hid (by rw [hQ, need_yes (by omega)])
    have HN := Lib.hid hn
    have HA := Lib.hid hA
    have HP := Lib.hid hp
    have HBB := Lib.hid hb
    have HSM := Lib.hid hsm
    unfold penV
    clear hn hA h4 hp hb hsm hQ
    go_enter Tryd.func89, Tryd.ntmps89
    go_wp2_with fail
    refine (must_yes _).mono ?_
    rintro e w1 ⟨rfl, rfl⟩
    go_wp2_with fail
    refine (put_new (Went.refl HP.out) hB [[40]] (by simp) (by simp)).mono ?_
    rintro e1 w1 hpost
    cases hR : adv T (some [[40]]) with
    | none =>
      rw [hR] at hpost
      obtain ⟨rfl, hch⟩ := hpost
      have HNO := Lib.hid (HEQ.out.trans (adv_cat_none hR _))
      clear hR
      unfold boom
      go_wp2
      refine ⟨rfl, ?_⟩
      rw [HNO.out]
      exact ⟨rfl, hch⟩
    | some T1 =>
      rw [hR] at hpost
      obtain ⟨rfl, u1, hwent⟩ := hpost
      have HW1 := Lib.hid hwent
      have HEQ1 := Lib.hid (HEQ.out.trans (adv_cat_some hR _))
      clear hwent hR
      go_wp2_with fail
      go_loopw [15] (fun i wr => ∃ (j : Nat) (u' : Value) (T' : List (List UInt8)), j ≤ n ∧ i = .int .i64 j ∧ Hid (Went w Bc Ba B u wr u' T') ∧ Hid (adv T Q = adv T' (cat (penPs (ps.drop j) j) (some [[41]])))) (fun i _ => n - (intOf i).toNat)
      case atStart => exact ⟨0, u1, T1, Nat.zero_le _, rfl, HW1, HEQ1⟩
      case round =>
        obtain ⟨wo, rfl⟩ : ∃ wo : World, wo = wr := ⟨_, rfl⟩
        obtain ⟨j, u2, T2, hj, rfl, HW2, HEQ2⟩ := hrel
        by_cases hlt : j < n
        · have hjt : j < ps.length := by rw [← HN.out]; exact hlt
          obtain ⟨b, off, rfl, hbB, _, _, r0, r1⟩ := HA.out j hjt
          have hbw : Below B w0 wo := HBB.out.trans (HW2.out.2.2.below hB (fun x hx => (HP.out.mine hx).1))
          have r0 := (hbw.cell (p := ⟨b, off + j * 2, none⟩) hbB).trans r0
          have r1 := (hbw.cell (p := ⟨b, off + j * 2 + 1, none⟩) hbB).trans r1
          obtain ⟨s1, s2⟩ := HSM.out ps[j] (List.getElem_mem _)
          have hdr := penPs_drop hjt
          obtain ⟨E, hE⟩ : ∃ E, E = ps[j] := ⟨_, rfl⟩
          rw [← hE] at r0 r1 hdr s1 s2
          clear hE
          obtain ⟨Y, hY⟩ : ∃ Y : World, Y = wo.alloc (.cells #[.string (strOf E.name), .string (strOf E.type)] 71) := ⟨_, rfl⟩
          have HW3 : Hid (Went w Bc Ba B u Y u2 T2) := Lib.hid (by rw [hY]; exact HW2.out.alloc _)
          have HY := Lib.hid hY
          have HS1 := Lib.hid s1
          have HS2 := Lib.hid s2
          obtain ⟨T3, hT3⟩ : ∃ T3, T3 = T2 := ⟨_, rfl⟩
          obtain ⟨u3, hu3⟩ : ∃ u3, u3 = u2 := ⟨_, rfl⟩
          rw [← hT3, ← hu3] at HW3
          obtain ⟨C, hC⟩ : ∃ C : Ts, C = some (if j = 0 then [] else [[44]]) := ⟨_, rfl⟩
          have HEQ3 : Hid (adv T Q = adv T3 (cat C (cat (penPr E) (cat (penPs (ps.drop (j + 1)) (j + 1)) (some [[41]]))))) := Lib.hid (by rw [HEQ2.out, hT3, hdr, ← hC, cat_assoc, cat_assoc])
          have HCM := Lib.hid (comma_any HW3.out.1 (Nat.le_trans hB HW3.out.2.2.size) j C hC)
          have hblk : Y.heap[wo.heap.size]? = some (.cells #[.string (strOf E.name), .string (strOf E.type)] 71 (0, 0)) := by rw [hY]; exact heap_alloc_new _ _
          have HBLK := Lib.hid hblk
          have HMN : Hid (∀ x, Mine Bc Ba u3 x → x < wo.heap.size) := Lib.hid (fun x hx => by rw [hu3] at hx; exact (HW2.out.1.mine hx).2)
          clear hY hdr hbw s1 s2 hT3 hu3 hC hblk
          unfold penV at HCM
          go_wp2_with fail
          rw [← HY.out]
          refine (HCM.out).mono ?_
          rintro e4 w4 hpost
          cases hR : adv T3 (C) with
          | none =>
            rw [hR] at hpost
            obtain ⟨rfl, hch⟩ := hpost
            have HNO := Lib.hid (HEQ3.out.trans (adv_cat_none hR _))
            have HCH := Lib.hid (HW3.out.fell hch)
            clear hR hch
            unfold boom
            go_wp2
            refine ⟨rfl, ?_⟩
            rw [HNO.out]
            exact ⟨rfl, HCH.out⟩
          | some T4 =>
            rw [hR] at hpost
            obtain ⟨rfl, u4, hwent⟩ := hpost
            have HW4 := Lib.hid (HW3.out.trans hwent)
            have HEQ4 := Lib.hid (HEQ3.out.trans (adv_cat_some hR _))
            have hb4 := (hwent.2.2.block _ (lt_of_heap HBLK.out) (fun hm => by have := HMN.out _ hm; omega)).trans HBLK.out
            have p0 := cell_of_row w4 wo.heap.size 0 _ _ (0, 0) hb4
            have p1 := cell_of_row w4 wo.heap.size 1 _ _ (0, 0) hb4
            simp at p0 p1
            clear hb4
            clear hwent hR
            have HPR := Lib.hid (pair_pr HW4.out.1 (Nat.le_trans hB HW4.out.2.2.size) E HS1.out HS2.out)
            unfold penV at HPR
            go_wp2_with fail
            refine (HPR.out).mono ?_
            rintro e5 w5 hpost
            cases hR : adv T4 (penPr E) with
            | none =>
              rw [hR] at hpost
              obtain ⟨rfl, hch⟩ := hpost
              have HNO := Lib.hid (HEQ4.out.trans (adv_cat_none hR _))
              have HCH := Lib.hid (HW4.out.fell hch)
              clear hR hch
              unfold boom
              go_wp2
              refine ⟨rfl, ?_⟩
              rw [HNO.out]
              exact ⟨rfl, HCH.out⟩
            | some T5 =>
              rw [hR] at hpost
              obtain ⟨rfl, u5, hwent⟩ := hpost
              have HW5 := Lib.hid (HW4.out.trans hwent)
              have HEQ5 := Lib.hid (HEQ4.out.trans (adv_cat_some hR _))

              clear hwent hR
              go_wp2_with fail
              go_roundw
              case rel => exact ⟨j + 1, u5, T5, by omega, by go_num, HW5, HEQ5⟩
              case measure => simp [intOf]; omega
        · have hjn : j = n := by omega
          subst hjn
          have hdn : ps.drop j = [] := List.drop_of_length_le (by rw [HN.out]; exact Nat.le_refl _)
          have HEQ3 : Hid (adv T Q = adv T2 (some [[41]])) := Lib.hid (by rw [HEQ2.out, hdn, penPs, cat_nil_l])
          clear hdn
          go_wp2_with fail
          refine (put_new (Went.refl HW2.out.1) (Nat.le_trans hB HW2.out.2.2.size) [[41]] (by simp) (by simp)).mono ?_
          rintro e4 w4 hpost
          cases hR : adv T2 (some [[41]]) with
          | none =>
            rw [hR] at hpost
            obtain ⟨rfl, hch⟩ := hpost
            have HNO := Lib.hid (HEQ3.out.trans hR)
            have HCH := Lib.hid (HW2.out.fell hch)
            clear hR hch
            unfold boom
            go_wp2
            refine ⟨rfl, ?_⟩
            rw [HNO.out]
            exact ⟨rfl, HCH.out⟩
          | some T4 =>
            rw [hR] at hpost
            obtain ⟨rfl, u4, hwent⟩ := hpost
            have HW4 := Lib.hid (HW2.out.trans hwent)
            have HFIN := Lib.hid (HEQ3.out.trans hR)
            clear hwent hR
            go_wp2
            go_end0
            rw [HFIN.out]
            exact ⟨rfl, u4, HW4.out⟩
  · have h4' : decide ((n : Int) ≤ 4) = false := by rw [decide_eq_false_iff_not]; omega
    have HNO : Hid (adv T Q = none) := Lib.hid (by rw [hQ, need_no (by omega)]; rfl)
    clear hn hA h4 hp hb hQ
    unfold penV
    go_enter Tryd.func89, Tryd.ntmps89
    go_wp2_with fail
    refine (must_no _).mono ?_
    rintro e w1 ⟨rfl, rfl⟩
    unfold boom
    go_wp2
    refine ⟨rfl, ?_⟩
    rw [HNO.out]
    exact ⟨rfl, Chg.refl _ _⟩

end Go.Proofs.YtmbkjabjcphkbaaDoor
end
section
/- A declaration's tokens, kind by kind, in the order in which they are written; its block. -/
set_option linter.unusedVariables false
namespace Go.Proofs.YtmbkjabjcphkbaaDoor
open Go.RowKit

def fieldsQ (ps : List Pr) : Ts := need (ps.length ≤ 8) (cat (some [[123]]) (cat (penFs ps) (some [[125]])))
def paramsQ (ps : List Pr) : Ts := need (ps.length ≤ 4) (cat (some [[40]]) (cat (penPs ps 0) (some [[41]])))
section
variable (p n : Int) (nm ty : List UInt8) (ps : List Pr) (bd : List Sm)
theorem need_comm {q : Prop} [Decidable q] (c : Ts) : need q c = cat c (need q (some [])) := by
  by_cases h : q
  · rw [need_yes h, need_yes h, cat_nil_r]
  · rw [need_no h, need_no h, cat_none_r]
theorem penD_name (d : Dc) (h : ¬ nameB d.name = true) : penD d = none := by unfold penD; rw [need_no h, cat_none_l]
theorem penD_1 (h : nameB nm = true) : penD ⟨1, p, n, nm, ty, ps, bd⟩ = cat (some [wordS 5, nm, [59]]) (need (n = 0 ∧ ty = [] ∧ ps.length = 0 ∧ bd.length = 0) (some [])) := by
  unfold penD; rw [need_yes h, cat_nil_l]; exact need_comm (q := n = 0 ∧ ty = [] ∧ ps.length = 0 ∧ bd.length = 0) _
theorem penD_5 (h : nameB nm = true) : penD ⟨5, p, n, nm, ty, ps, bd⟩ = cat (some [[105, 110, 112, 117, 116], nm, [59]]) (need (n = 0 ∧ ty = [] ∧ ps.length = 0 ∧ bd.length = 0) (some [])) := by
  unfold penD; rw [need_yes h, cat_nil_l]; exact need_comm (q := n = 0 ∧ ty = [] ∧ ps.length = 0 ∧ bd.length = 0) _
theorem penD_6 (h : nameB nm = true) : penD ⟨6, p, n, nm, ty, ps, bd⟩ = cat (some [[115, 105, 110, 107], nm, [59]]) (need (n = 0 ∧ ty = [] ∧ ps.length = 0 ∧ bd.length = 0) (some [])) := by
  unfold penD; rw [need_yes h, cat_nil_l]; exact need_comm (q := n = 0 ∧ ty = [] ∧ ps.length = 0 ∧ bd.length = 0) _
theorem penD_4 (h : nameB nm = true) : penD ⟨4, p, n, nm, ty, ps, bd⟩ = cat (some [wordS 1, nm]) (cat (tyT ty) (cat (some [[59]]) (need (n = 0 ∧ ps.length = 0 ∧ bd.length = 0) (some [])))) := by
  unfold penD; rw [need_yes h, cat_nil_l]; exact (need_comm (q := n = 0 ∧ ps.length = 0 ∧ bd.length = 0) _).trans (by rw [cat_assoc, cat_assoc])
theorem penD_8 (h : nameB nm = true) : penD ⟨8, p, n, nm, ty, ps, bd⟩ = cat (some [[116, 104, 114, 101, 97, 100], nm]) (cat (penB bd 1) (need (n = 0 ∧ ty = [] ∧ ps.length = 0) (some []))) := by
  unfold penD; rw [need_yes h, cat_nil_l]; exact (need_comm (q := n = 0 ∧ ty = [] ∧ ps.length = 0) _).trans (by rw [cat_assoc])
theorem penD_2 (h : nameB nm = true) : penD ⟨2, p, n, nm, ty, ps, bd⟩ = cat (need (1 ≤ n ∧ n ≤ 4) (some [])) (cat (some [[99, 104, 97, 110], nm, Lib.itoa n, [59]]) (need (ty = [] ∧ ps.length = 0 ∧ bd.length = 0) (some []))) := by
  unfold penD; rw [need_yes h, cat_nil_l]
  show need (1 ≤ n ∧ n ≤ 4 ∧ ty = [] ∧ ps.length = 0 ∧ bd.length = 0) _ = _
  by_cases h1 : 1 ≤ n ∧ n ≤ 4
  · rw [need_cat_yes h1, ← need_comm]
    by_cases h2 : ty = [] ∧ ps.length = 0 ∧ bd.length = 0
    · rw [need_yes h2, need_yes ⟨h1.1, h1.2, h2⟩]
    · rw [need_no h2, need_no (fun e => h2 e.2.2)]
  · rw [need_cat_no h1, need_no (fun e => h1 ⟨e.1, e.2.1⟩)]
theorem penD_3 (h : nameB nm = true) : penD ⟨3, p, n, nm, ty, ps, bd⟩ = cat (some [[115, 116, 114, 117, 99, 116], nm]) (cat (fieldsQ ps) (need (n = 0 ∧ ty = [] ∧ bd.length = 0) (some []))) := by
  unfold penD fieldsQ; rw [need_yes h, cat_nil_l]
  show need (n = 0 ∧ ty = [] ∧ ps.length ≤ 8 ∧ bd.length = 0) _ = _
  by_cases h1 : ps.length ≤ 8
  · rw [need_yes h1]
    by_cases h2 : n = 0 ∧ ty = [] ∧ bd.length = 0
    · rw [need_yes h2, need_yes ⟨h2.1, h2.2.1, h1, h2.2.2⟩, cat_nil_r]
      show cat (cat (some [_, _]) (some [_])) _ = _
      rw [cat_assoc]
    · rw [need_no h2, need_no (fun e => h2 ⟨e.1, e.2.1, e.2.2.2⟩), cat_none_r, cat_none_r]
  · rw [need_no h1, need_no (fun e => h1 e.2.2.1), cat_none_l, cat_none_r]
theorem penD_7 (h : nameB nm = true) : penD ⟨7, p, n, nm, ty, ps, bd⟩ = cat (some [[102, 117, 110, 99], nm]) (cat (paramsQ ps) (cat (if ty = [] then some [] else tyT ty) (cat (penB bd 1) (need (n = 0) (some []))))) := by
  unfold penD paramsQ; rw [need_yes h, cat_nil_l]
  show need (n = 0 ∧ ps.length ≤ 4) _ = _
  by_cases h1 : ps.length ≤ 4
  · rw [need_yes h1]
    by_cases h2 : n = 0
    · rw [need_yes h2, need_yes ⟨h2, h1⟩, cat_nil_r]
      show cat (cat (some [_, _]) (some [_])) _ = _
      rw [cat_assoc, cat_assoc, cat_assoc]
    · rw [need_no h2, need_no (fun e => h2 e.1), cat_none_r, cat_none_r, cat_none_r, cat_none_r]
  · rw [need_no h1, need_no (fun e => h1 e.2), cat_none_l, cat_none_r]
theorem penD_else (k : Int) (hk : k < 1 ∨ 8 < k) : penD ⟨k, p, n, nm, ty, ps, bd⟩ = none := by
  unfold penD
  show cat _ (if k = 1 then _ else _) = _
  rw [if_neg (show ¬ k = 1 by omega), if_neg (show ¬ k = 2 by omega), if_neg (show ¬ k = 3 by omega), if_neg (show ¬ k = 4 by omega), if_neg (show ¬ k = 5 by omega), if_neg (show ¬ k = 6 by omega), if_neg (show ¬ k = 7 by omega), if_neg (show ¬ k = 8 by omega), cat_none_r]
end
section
variable {w w' : World} {g : Nat} {k p u : Int} {n t : ByteArray} {a b : Value}
theorem DcBlk.lt (h : DcBlk w g k p u n t a b) : g < w.heap.size := lt_of_heap h
theorem DcBlk.frz (h : DcBlk w g k p u n t a b) (j : Nat) : w.frozen? ⟨g, j, none⟩ = false := frozen_of_row w g j _ _ h
theorem DcBlk.cc6 (h : DcBlk w g k p u n t a b) : w.cell? ⟨g, 6, none⟩ = some b := by rw [cell_of_row w g 6 _ _ (0, 0) h]; rfl
theorem DcBlk.s2 (h : DcBlk w g k p u n t a b) (x : Int) : DcBlk (w.setCell ⟨g, 2, none⟩ (.int .i64 x)) g k p x n t a b := by
  unfold DcBlk at h ⊢; simp [World.setCell, Array.getElem?_modify, h]
theorem DcBlk.s3 (h : DcBlk w g k p u n t a b) (x : ByteArray) : DcBlk (w.setCell ⟨g, 3, none⟩ (.string x)) g k p u x t a b := by
  unfold DcBlk at h ⊢; simp [World.setCell, Array.getElem?_modify, h]
theorem DcBlk.s4 (h : DcBlk w g k p u n t a b) (x : ByteArray) : DcBlk (w.setCell ⟨g, 4, none⟩ (.string x)) g k p u n x a b := by
  unfold DcBlk at h ⊢; simp [World.setCell, Array.getElem?_modify, h]
theorem DcBlk.s5 (h : DcBlk w g k p u n t a b) (x : Value) : DcBlk (w.setCell ⟨g, 5, none⟩ x) g k p u n t x b := by
  unfold DcBlk at h ⊢; simp [World.setCell, Array.getElem?_modify, h]
theorem DcBlk.s6 (h : DcBlk w g k p u n t a b) (x : Value) : DcBlk (w.setCell ⟨g, 6, none⟩ x) g k p u n t a x := by
  unfold DcBlk at h ⊢; simp [World.setCell, Array.getElem?_modify, h]
theorem DcBlk.apart {Bc Ba B : Nat} {v : Value} {T : List (List UInt8)} (h : DcBlk w g k p u n t a b) (hp : PenAt w Bc Ba B v T) (h1 : Bc < g) (h2 : Ba < g) : ¬ Mine Bc Ba v g := by
  rintro (e | e | e)
  · omega
  · omega
  · obtain ⟨_, cur, hg⟩ := hp.own.blk e
    unfold DcBlk at h; rw [h] at hg; simp at hg
theorem DcBlk.went {w1 : World} {Bc Ba B : Nat} {v v1 : Value} {T T1 : List (List UInt8)} (h : DcBlk w g k p u n t a b) (hp : PenAt w Bc Ba B v T) (h1 : Bc < g) (h2 : Ba < g) (hw : Went w Bc Ba B v w1 v1 T1) : DcBlk w1 g k p u n t a b :=
  (hw.2.2.block g h.lt (h.apart hp h1 h2)).trans h
end

end Go.Proofs.YtmbkjabjcphkbaaDoor
end
section
/- The walks of a declaration, kind by kind. -/
set_option linter.unusedVariables false
namespace Go.Proofs.YtmbkjabjcphkbaaDoor
open Go.RowKit

set_option maxRecDepth 100000 in
set_option maxHeartbeats 4000000 in
theorem decl_1 {w0 w : World} {Bc Ba B : Nat} {u : Value} {T : List (List UInt8)} {p n : Int} {nm ty : List UInt8} {ps : List Pr} {bd : List Sm} {vp vb : Value} (htab : Tab B w0) (hb : Below B w0 w) (hB : B ≤ w.heap.size) (hp : PenAt w Bc Ba B u T) (hnl : nm.length ≤ 40000) (htl : ty.length ≤ 40000)
    (hps : PrsIn w0 (· < B) ps vp) (hsm : ∀ p ∈ ps, p.name.length ≤ 40000 ∧ p.type.length ≤ 40000) (hbd : WritesB w0 B bd vb) (hbs : ∃ A c, vb = .slice A bd.length c) (hq : nameB nm = true) :
    Calls Tryd.prog 63 #[penV Bc Ba, .agg #[.int .i64 1, .int .i64 p, .int .i64 n, .string (strOf nm), .string (strOf ty), vp, vb]] w (PenPost w Bc Ba B u (adv T (penD ⟨1, p, n, nm, ty, ps, bd⟩))) := by
  obtain ⟨Ap, cp, hvp, _, _, _⟩ := id hps
  subst hvp
  obtain ⟨Ab, cb, hvb⟩ := hbs
  subst hvb
  obtain ⟨X, hX⟩ : ∃ X : World, X = w.alloc (.cells #[.int .i64 1, .int .i64 p, .int .i64 n, .string (strOf nm), .string (strOf ty), .slice Ap ps.length cp, .slice Ab bd.length cb] 53) := ⟨_, rfl⟩
  obtain ⟨g, hg⟩ : ∃ g, g = w.heap.size := ⟨_, rfl⟩
  have hd : DcBlk X g 1 p n (strOf nm) (strOf ty) (.slice Ap ps.length cp) (.slice Ab bd.length cb) := by rw [hX, hg]; exact DcBlk.new _ _ _ _ _ _ _ _
  have hw : Went w Bc Ba B u X u T := by rw [hX]; exact (Went.refl hp).alloc _
  have hg1 : Bc < g := by rw [hg]; exact lt_of_heap hp.cnt
  have hg2 : Ba < g := by rw [hg]; exact lt_of_heap hp.buf
  have hwg : w.heap.size ≤ g := by rw [hg]; exact Nat.le_refl _
  have hsz : (strOf nm).size ≤ 40000 := by rw [Lib.size_eq, strOf_data]; exact hnl
  have HX := Lib.hid hX
  have HG := Lib.hid hg
  have HD := Lib.hid hd
  have HW := Lib.hid hw
  have HPS := Lib.hid hps
  have HSM := Lib.hid hsm
  clear hX hg hd hw hps hsm
  have HEQ := Lib.hid (congrArg (adv T) (penD_1 p n nm ty ps bd hq))
  have HTN := Lib.hid (takeName_yes ⟨g, 3, none⟩ (strOf nm) X HD.out.c3 (HD.out.frz 3) hsz hq)
  unfold penV
  go_enter Tryd.func63, Tryd.ntmps63
  go_wp2_with fail
  rw [← HX.out, ← HG.out]
  refine HTN.out.mono ?_
  rintro e1 w1 ⟨rfl, wm, hbl, hw1⟩
  have HW1 : Hid (Went w Bc Ba B u w1 u T) := Lib.hid (by rw [hw1]; exact (HW.out.below hbl).setCell _ _ hwg ((HD.out).apart (HW.out).1 hg1 hg2))
  have HD1 := Lib.hid (show DcBlk w1 g 1 p n (strOf []) (strOf ty) (.slice Ap ps.length cp) (.slice Ab bd.length cb) from by rw [hw1]; exact (HD.out.below hbl HD.out.lt).s3 _)
  clear hbl hw1
  have a2 := (HD1.out).c0
  go_wp2_with fail
  refine (put_new (Went.refl (HW1.out).1) (Nat.le_trans hB (HW1.out).2.2.size) [wordS 5, nm, [59]] (by intro t ht; simp at ht; have := hnl; have := htl; first | (rcases ht with rfl | rfl | rfl | rfl <;> first | decide | assumption | simp) | (rcases ht with rfl | rfl | rfl <;> first | decide | assumption | simp) | (rcases ht with rfl | rfl <;> first | decide | assumption | simp) | (rw [ht]; first | decide | assumption) | (rw [ht]; simp)) (by simp)).mono ?_
  rintro e3 w3 hpost
  cases hR : adv T (some [wordS 5, nm, [59]]) with
  | none =>
    rw [hR] at hpost
    obtain ⟨rfl, hch⟩ := hpost
    have HNO := Lib.hid ((HEQ.out).trans (adv_cat_none hR _))
    have HCH := Lib.hid ((HW1.out).fell hch)
    clear hR hch
    unfold boom
    go_wp2
    refine ⟨rfl, ?_⟩
    rw [HNO.out]
    exact ⟨rfl, HCH.out⟩
  | some T3 =>
    rw [hR] at hpost
    obtain ⟨rfl, u3, hwent⟩ := hpost
    have HW3 := Lib.hid ((HW1.out).trans hwent)
    have HD3 := Lib.hid ((HD1.out).went (HW1.out).1 hg1 hg2 hwent)
    have HEQ3 := Lib.hid ((HEQ.out).trans (adv_cat_some hR _))
    clear hwent hR
    have c2 := (HD3.out).c2
    have c4 := (HD3.out).c4
    have c5 := (HD3.out).c5
    have c6 := (HD3.out).c6
    have hz0 : (strOf []).toList = [] := strOf_toList []
    obtain ⟨nx, hnx⟩ : ∃ m, m = ps.length := ⟨_, rfl⟩
    rw [← hnx] at c5
    obtain ⟨nb, hnb⟩ : ∃ m, m = bd.length := ⟨_, rfl⟩
    rw [← hnb] at c6
    by_cases hn : n = 0
    case neg =>
      have HNO := Lib.hid ((HEQ3.out).trans (show adv T3 (need _ (some [])) = none from by rw [need_no (fun h => hn h.1)]; rfl))
      have hs1 : (n == 0) = false := by rw [beq_eq_false_iff_ne]; exact hn
      clear hnx hnb hn
      go_wp2_with fail
      refine (must_no _).mono ?_
      rintro e9 w9 ⟨rfl, rfl⟩
      unfold boom
      go_wp2
      refine ⟨rfl, ?_⟩
      rw [HNO.out]
      exact ⟨rfl, (HW3.out).2.2⟩
    by_cases ht : ty = []
    case neg =>
      have HNO := Lib.hid ((HEQ3.out).trans (show adv T3 (need _ (some [])) = none from by rw [need_no (fun h => ht h.2.1)]; rfl))
      subst hn
      have hs1 : ¬ (strOf ty).toList = [] := by rw [strOf_toList]; exact ht
      clear hnx hnb ht
      go_wp2_with fail
      refine (must_no _).mono ?_
      rintro e9 w9 ⟨rfl, rfl⟩
      unfold boom
      go_wp2
      refine ⟨rfl, ?_⟩
      rw [HNO.out]
      exact ⟨rfl, (HW3.out).2.2⟩
    by_cases hx : ps.length = 0
    case neg =>
      have HNO := Lib.hid ((HEQ3.out).trans (show adv T3 (need _ (some [])) = none from by rw [need_no (fun h => hx h.2.2.1)]; rfl))
      subst hn
      subst ht
      have hl1 : (nx == 0) = false := by rw [beq_eq_false_iff_ne]; omega
      have hl2 : ((nx : Int) == 0) = false := by rw [beq_eq_false_iff_ne]; omega
      clear hnx hnb hx
      go_wp2_with fail
      refine (must_no _).mono ?_
      rintro e9 w9 ⟨rfl, rfl⟩
      unfold boom
      go_wp2
      refine ⟨rfl, ?_⟩
      rw [HNO.out]
      exact ⟨rfl, (HW3.out).2.2⟩
    by_cases hbl0 : bd.length = 0
    case neg =>
      have HNO := Lib.hid ((HEQ3.out).trans (show adv T3 (need _ (some [])) = none from by rw [need_no (fun h => hbl0 h.2.2.2)]; rfl))
      subst hn
      subst ht
      obtain rfl : nx = 0 := by omega
      have hl1 : (nb == 0) = false := by rw [beq_eq_false_iff_ne]; omega
      have hl2 : ((nb : Int) == 0) = false := by rw [beq_eq_false_iff_ne]; omega
      clear hnx hnb hx hbl0
      go_wp2_with fail
      refine (must_no _).mono ?_
      rintro e9 w9 ⟨rfl, rfl⟩
      unfold boom
      go_wp2
      refine ⟨rfl, ?_⟩
      rw [HNO.out]
      exact ⟨rfl, (HW3.out).2.2⟩
    have HFIN := Lib.hid ((HEQ3.out).trans (show adv T3 (need _ (some [])) = some T3 from by rw [need_yes ⟨hn, ht, hx, hbl0⟩]; exact adv_nil (HW3.out).1.fit))
    subst hn
    subst ht
    obtain rfl : nx = 0 := by omega
    obtain rfl : nb = 0 := by omega
    clear hnx hnb hx hbl0
    go_wp2_with fail
    refine (must_yes _).mono ?_
    rintro e9 w9 ⟨rfl, rfl⟩
    go_wp2
    go_end0
    rw [HFIN.out]
    exact ⟨rfl, _, HW3.out⟩

set_option maxRecDepth 100000 in
set_option maxHeartbeats 4000000 in
theorem decl_noname {w0 w : World} {Bc Ba B : Nat} {u : Value} {T : List (List UInt8)} {p n : Int} {nm ty : List UInt8} {ps : List Pr} {bd : List Sm} {vp vb : Value} (htab : Tab B w0) (hb : Below B w0 w) (hB : B ≤ w.heap.size) (hp : PenAt w Bc Ba B u T) (hnl : nm.length ≤ 40000) (htl : ty.length ≤ 40000)
    (hps : PrsIn w0 (· < B) ps vp) (hsm : ∀ p ∈ ps, p.name.length ≤ 40000 ∧ p.type.length ≤ 40000) (hbd : WritesB w0 B bd vb) (hbs : ∃ A c, vb = .slice A bd.length c) {k : Int} (hq : ¬ nameB nm = true) :
    Calls Tryd.prog 63 #[penV Bc Ba, .agg #[.int .i64 k, .int .i64 p, .int .i64 n, .string (strOf nm), .string (strOf ty), vp, vb]] w (PenPost w Bc Ba B u (adv T (penD ⟨k, p, n, nm, ty, ps, bd⟩))) := by
  obtain ⟨Ap, cp, hvp, _, _, _⟩ := id hps
  subst hvp
  obtain ⟨Ab, cb, hvb⟩ := hbs
  subst hvb
  obtain ⟨X, hX⟩ : ∃ X : World, X = w.alloc (.cells #[.int .i64 k, .int .i64 p, .int .i64 n, .string (strOf nm), .string (strOf ty), .slice Ap ps.length cp, .slice Ab bd.length cb] 53) := ⟨_, rfl⟩
  obtain ⟨g, hg⟩ : ∃ g, g = w.heap.size := ⟨_, rfl⟩
  have hd : DcBlk X g k p n (strOf nm) (strOf ty) (.slice Ap ps.length cp) (.slice Ab bd.length cb) := by rw [hX, hg]; exact DcBlk.new _ _ _ _ _ _ _ _
  have hw : Went w Bc Ba B u X u T := by rw [hX]; exact (Went.refl hp).alloc _
  have hg1 : Bc < g := by rw [hg]; exact lt_of_heap hp.cnt
  have hg2 : Ba < g := by rw [hg]; exact lt_of_heap hp.buf
  have hwg : w.heap.size ≤ g := by rw [hg]; exact Nat.le_refl _
  have hsz : (strOf nm).size ≤ 40000 := by rw [Lib.size_eq, strOf_data]; exact hnl
  have HX := Lib.hid hX
  have HG := Lib.hid hg
  have HD := Lib.hid hd
  have HW := Lib.hid hw
  have HPS := Lib.hid hps
  have HSM := Lib.hid hsm
  clear hX hg hd hw hps hsm
  have HNO := Lib.hid (congrArg (adv T) (penD_name ⟨k, p, n, nm, ty, ps, bd⟩ hq))
  have HTN := Lib.hid (takeName_no ⟨g, 3, none⟩ (strOf nm) X HD.out.c3 hsz (by simpa [strOf_data] using hq))
  unfold penV
  go_enter Tryd.func63, Tryd.ntmps63
  go_wp2_with fail
  rw [← HX.out, ← HG.out]
  refine HTN.out.mono ?_
  rintro e8 w8 ⟨rfl, hbl⟩
  have HCH := Lib.hid (HW.out.2.2.trans (Chg.of_below (P := fun _ => False) hbl) (fun _ _ e => e.elim))
  unfold boom
  go_wp2
  refine ⟨rfl, ?_⟩
  rw [HNO.out]
  exact ⟨rfl, HCH.out⟩

set_option maxRecDepth 100000 in
set_option maxHeartbeats 4000000 in
theorem decl_else {w0 w : World} {Bc Ba B : Nat} {u : Value} {T : List (List UInt8)} {p n : Int} {nm ty : List UInt8} {ps : List Pr} {bd : List Sm} {vp vb : Value} (htab : Tab B w0) (hb : Below B w0 w) (hB : B ≤ w.heap.size) (hp : PenAt w Bc Ba B u T) (hnl : nm.length ≤ 40000) (htl : ty.length ≤ 40000)
    (hps : PrsIn w0 (· < B) ps vp) (hsm : ∀ p ∈ ps, p.name.length ≤ 40000 ∧ p.type.length ≤ 40000) (hbd : WritesB w0 B bd vb) (hbs : ∃ A c, vb = .slice A bd.length c) (hq : nameB nm = true) {k : Int} (hk : k < 1 ∨ 8 < k) :
    Calls Tryd.prog 63 #[penV Bc Ba, .agg #[.int .i64 k, .int .i64 p, .int .i64 n, .string (strOf nm), .string (strOf ty), vp, vb]] w (PenPost w Bc Ba B u (adv T (penD ⟨k, p, n, nm, ty, ps, bd⟩))) := by
  obtain ⟨Ap, cp, hvp, _, _, _⟩ := id hps
  subst hvp
  obtain ⟨Ab, cb, hvb⟩ := hbs
  subst hvb
  obtain ⟨X, hX⟩ : ∃ X : World, X = w.alloc (.cells #[.int .i64 k, .int .i64 p, .int .i64 n, .string (strOf nm), .string (strOf ty), .slice Ap ps.length cp, .slice Ab bd.length cb] 53) := ⟨_, rfl⟩
  obtain ⟨g, hg⟩ : ∃ g, g = w.heap.size := ⟨_, rfl⟩
  have hd : DcBlk X g k p n (strOf nm) (strOf ty) (.slice Ap ps.length cp) (.slice Ab bd.length cb) := by rw [hX, hg]; exact DcBlk.new _ _ _ _ _ _ _ _
  have hw : Went w Bc Ba B u X u T := by rw [hX]; exact (Went.refl hp).alloc _
  have hg1 : Bc < g := by rw [hg]; exact lt_of_heap hp.cnt
  have hg2 : Ba < g := by rw [hg]; exact lt_of_heap hp.buf
  have hwg : w.heap.size ≤ g := by rw [hg]; exact Nat.le_refl _
  have hsz : (strOf nm).size ≤ 40000 := by rw [Lib.size_eq, strOf_data]; exact hnl
  have HX := Lib.hid hX
  have HG := Lib.hid hg
  have HD := Lib.hid hd
  have HW := Lib.hid hw
  have HPS := Lib.hid hps
  have HSM := Lib.hid hsm
  clear hX hg hd hw hps hsm
  have HEQ := Lib.hid (congrArg (adv T) (penD_else p n nm ty ps bd k hk))
  have e1k : (k == 1) = false := by rw [beq_eq_false_iff_ne]; omega
  have e2k : (k == 2) = false := by rw [beq_eq_false_iff_ne]; omega
  have e3k : (k == 3) = false := by rw [beq_eq_false_iff_ne]; omega
  have e4k : (k == 4) = false := by rw [beq_eq_false_iff_ne]; omega
  have e5k : (k == 5) = false := by rw [beq_eq_false_iff_ne]; omega
  have e6k : (k == 6) = false := by rw [beq_eq_false_iff_ne]; omega
  have e7k : (k == 7) = false := by rw [beq_eq_false_iff_ne]; omega
  have e8k : (k == 8) = false := by rw [beq_eq_false_iff_ne]; omega
  clear hk
  have HTN := Lib.hid (takeName_yes ⟨g, 3, none⟩ (strOf nm) X HD.out.c3 (HD.out.frz 3) hsz hq)
  unfold penV
  go_enter Tryd.func63, Tryd.ntmps63
  go_wp2_with fail
  rw [← HX.out, ← HG.out]
  refine HTN.out.mono ?_
  rintro e1 w1 ⟨rfl, wm, hbl, hw1⟩
  have HW1 : Hid (Went w Bc Ba B u w1 u T) := Lib.hid (by rw [hw1]; exact (HW.out.below hbl).setCell _ _ hwg ((HD.out).apart (HW.out).1 hg1 hg2))
  have HD1 := Lib.hid (show DcBlk w1 g k p n (strOf []) (strOf ty) (.slice Ap ps.length cp) (.slice Ab bd.length cb) from by rw [hw1]; exact (HD.out.below hbl HD.out.lt).s3 _)
  clear hbl hw1
  have a2 := (HD1.out).c0
  go_wp2_with fail
  have HNO := HEQ
  refine (must_no _).mono ?_
  rintro e8 w8 ⟨rfl, rfl⟩
  have HCH := Lib.hid ((HW1.out).2.2)
  unfold boom
  go_wp2
  refine ⟨rfl, ?_⟩
  rw [HNO.out]
  exact ⟨rfl, HCH.out⟩

end Go.Proofs.YtmbkjabjcphkbaaDoor
end
section
/- The walks of a declaration, kind by kind. -/
set_option linter.unusedVariables false
namespace Go.Proofs.YtmbkjabjcphkbaaDoor
open Go.RowKit

set_option maxRecDepth 100000 in
set_option maxHeartbeats 4000000 in
theorem decl_5 {w0 w : World} {Bc Ba B : Nat} {u : Value} {T : List (List UInt8)} {p n : Int} {nm ty : List UInt8} {ps : List Pr} {bd : List Sm} {vp vb : Value} (htab : Tab B w0) (hb : Below B w0 w) (hB : B ≤ w.heap.size) (hp : PenAt w Bc Ba B u T) (hnl : nm.length ≤ 40000) (htl : ty.length ≤ 40000)
    (hps : PrsIn w0 (· < B) ps vp) (hsm : ∀ p ∈ ps, p.name.length ≤ 40000 ∧ p.type.length ≤ 40000) (hbd : WritesB w0 B bd vb) (hbs : ∃ A c, vb = .slice A bd.length c) (hq : nameB nm = true) :
    Calls Tryd.prog 63 #[penV Bc Ba, .agg #[.int .i64 5, .int .i64 p, .int .i64 n, .string (strOf nm), .string (strOf ty), vp, vb]] w (PenPost w Bc Ba B u (adv T (penD ⟨5, p, n, nm, ty, ps, bd⟩))) := by
  obtain ⟨Ap, cp, hvp, _, _, _⟩ := id hps
  subst hvp
  obtain ⟨Ab, cb, hvb⟩ := hbs
  subst hvb
  obtain ⟨X, hX⟩ : ∃ X : World, X = w.alloc (.cells #[.int .i64 5, .int .i64 p, .int .i64 n, .string (strOf nm), .string (strOf ty), .slice Ap ps.length cp, .slice Ab bd.length cb] 53) := ⟨_, rfl⟩
  obtain ⟨g, hg⟩ : ∃ g, g = w.heap.size := ⟨_, rfl⟩
  have hd : DcBlk X g 5 p n (strOf nm) (strOf ty) (.slice Ap ps.length cp) (.slice Ab bd.length cb) := by rw [hX, hg]; exact DcBlk.new _ _ _ _ _ _ _ _
  have hw : Went w Bc Ba B u X u T := by rw [hX]; exact (Went.refl hp).alloc _
  have hg1 : Bc < g := by rw [hg]; exact lt_of_heap hp.cnt
  have hg2 : Ba < g := by rw [hg]; exact lt_of_heap hp.buf
  have hwg : w.heap.size ≤ g := by rw [hg]; exact Nat.le_refl _
  have hsz : (strOf nm).size ≤ 40000 := by rw [Lib.size_eq, strOf_data]; exact hnl
  have HX := Lib.hid hX
  have HG := Lib.hid hg
  have HD := Lib.hid hd
  have HW := Lib.hid hw
  have HPS := Lib.hid hps
  have HSM := Lib.hid hsm
  clear hX hg hd hw hps hsm
  have HEQ := Lib.hid (congrArg (adv T) (penD_5 p n nm ty ps bd hq))
  have HTN := Lib.hid (takeName_yes ⟨g, 3, none⟩ (strOf nm) X HD.out.c3 (HD.out.frz 3) hsz hq)
  unfold penV
  go_enter Tryd.func63, Tryd.ntmps63
  go_wp2_with fail
  rw [← HX.out, ← HG.out]
  refine HTN.out.mono ?_
  rintro e1 w1 ⟨rfl, wm, hbl, hw1⟩
  have HW1 : Hid (Went w Bc Ba B u w1 u T) := Lib.hid (by rw [hw1]; exact (HW.out.below hbl).setCell _ _ hwg ((HD.out).apart (HW.out).1 hg1 hg2))
  have HD1 := Lib.hid (show DcBlk w1 g 5 p n (strOf []) (strOf ty) (.slice Ap ps.length cp) (.slice Ab bd.length cb) from by rw [hw1]; exact (HD.out.below hbl HD.out.lt).s3 _)
  clear hbl hw1
  have a2 := (HD1.out).c0
  go_wp2_with fail
  refine (put_new (Went.refl (HW1.out).1) (Nat.le_trans hB (HW1.out).2.2.size) [[105, 110, 112, 117, 116], nm, [59]] (by intro t ht; simp at ht; have := hnl; have := htl; first | (rcases ht with rfl | rfl | rfl | rfl <;> first | decide | assumption | simp) | (rcases ht with rfl | rfl | rfl <;> first | decide | assumption | simp) | (rcases ht with rfl | rfl <;> first | decide | assumption | simp) | (rw [ht]; first | decide | assumption) | (rw [ht]; simp)) (by simp)).mono ?_
  rintro e3 w3 hpost
  cases hR : adv T (some [[105, 110, 112, 117, 116], nm, [59]]) with
  | none =>
    rw [hR] at hpost
    obtain ⟨rfl, hch⟩ := hpost
    have HNO := Lib.hid ((HEQ.out).trans (adv_cat_none hR _))
    have HCH := Lib.hid ((HW1.out).fell hch)
    clear hR hch
    unfold boom
    go_wp2
    refine ⟨rfl, ?_⟩
    rw [HNO.out]
    exact ⟨rfl, HCH.out⟩
  | some T3 =>
    rw [hR] at hpost
    obtain ⟨rfl, u3, hwent⟩ := hpost
    have HW3 := Lib.hid ((HW1.out).trans hwent)
    have HD3 := Lib.hid ((HD1.out).went (HW1.out).1 hg1 hg2 hwent)
    have HEQ3 := Lib.hid ((HEQ.out).trans (adv_cat_some hR _))
    clear hwent hR
    have c2 := (HD3.out).c2
    have c4 := (HD3.out).c4
    have c5 := (HD3.out).c5
    have c6 := (HD3.out).c6
    have hz0 : (strOf []).toList = [] := strOf_toList []
    obtain ⟨nx, hnx⟩ : ∃ m, m = ps.length := ⟨_, rfl⟩
    rw [← hnx] at c5
    obtain ⟨nb, hnb⟩ : ∃ m, m = bd.length := ⟨_, rfl⟩
    rw [← hnb] at c6
    by_cases hn : n = 0
    case neg =>
      have HNO := Lib.hid ((HEQ3.out).trans (show adv T3 (need _ (some [])) = none from by rw [need_no (fun h => hn h.1)]; rfl))
      have hs1 : (n == 0) = false := by rw [beq_eq_false_iff_ne]; exact hn
      clear hnx hnb hn
      go_wp2_with fail
      refine (must_no _).mono ?_
      rintro e9 w9 ⟨rfl, rfl⟩
      unfold boom
      go_wp2
      refine ⟨rfl, ?_⟩
      rw [HNO.out]
      exact ⟨rfl, (HW3.out).2.2⟩
    by_cases ht : ty = []
    case neg =>
      have HNO := Lib.hid ((HEQ3.out).trans (show adv T3 (need _ (some [])) = none from by rw [need_no (fun h => ht h.2.1)]; rfl))
      subst hn
      have hs1 : ¬ (strOf ty).toList = [] := by rw [strOf_toList]; exact ht
      clear hnx hnb ht
      go_wp2_with fail
      refine (must_no _).mono ?_
      rintro e9 w9 ⟨rfl, rfl⟩
      unfold boom
      go_wp2
      refine ⟨rfl, ?_⟩
      rw [HNO.out]
      exact ⟨rfl, (HW3.out).2.2⟩
    by_cases hx : ps.length = 0
    case neg =>
      have HNO := Lib.hid ((HEQ3.out).trans (show adv T3 (need _ (some [])) = none from by rw [need_no (fun h => hx h.2.2.1)]; rfl))
      subst hn
      subst ht
      have hl1 : (nx == 0) = false := by rw [beq_eq_false_iff_ne]; omega
      have hl2 : ((nx : Int) == 0) = false := by rw [beq_eq_false_iff_ne]; omega
      clear hnx hnb hx
      go_wp2_with fail
      refine (must_no _).mono ?_
      rintro e9 w9 ⟨rfl, rfl⟩
      unfold boom
      go_wp2
      refine ⟨rfl, ?_⟩
      rw [HNO.out]
      exact ⟨rfl, (HW3.out).2.2⟩
    by_cases hbl0 : bd.length = 0
    case neg =>
      have HNO := Lib.hid ((HEQ3.out).trans (show adv T3 (need _ (some [])) = none from by rw [need_no (fun h => hbl0 h.2.2.2)]; rfl))
      subst hn
      subst ht
      obtain rfl : nx = 0 := by omega
      have hl1 : (nb == 0) = false := by rw [beq_eq_false_iff_ne]; omega
      have hl2 : ((nb : Int) == 0) = false := by rw [beq_eq_false_iff_ne]; omega
      clear hnx hnb hx hbl0
      go_wp2_with fail
      refine (must_no _).mono ?_
      rintro e9 w9 ⟨rfl, rfl⟩
      unfold boom
      go_wp2
      refine ⟨rfl, ?_⟩
      rw [HNO.out]
      exact ⟨rfl, (HW3.out).2.2⟩
    have HFIN := Lib.hid ((HEQ3.out).trans (show adv T3 (need _ (some [])) = some T3 from by rw [need_yes ⟨hn, ht, hx, hbl0⟩]; exact adv_nil (HW3.out).1.fit))
    subst hn
    subst ht
    obtain rfl : nx = 0 := by omega
    obtain rfl : nb = 0 := by omega
    clear hnx hnb hx hbl0
    go_wp2_with fail
    refine (must_yes _).mono ?_
    rintro e9 w9 ⟨rfl, rfl⟩
    go_wp2
    go_end0
    rw [HFIN.out]
    exact ⟨rfl, _, HW3.out⟩

set_option maxRecDepth 100000 in
set_option maxHeartbeats 4000000 in
theorem decl_6 {w0 w : World} {Bc Ba B : Nat} {u : Value} {T : List (List UInt8)} {p n : Int} {nm ty : List UInt8} {ps : List Pr} {bd : List Sm} {vp vb : Value} (htab : Tab B w0) (hb : Below B w0 w) (hB : B ≤ w.heap.size) (hp : PenAt w Bc Ba B u T) (hnl : nm.length ≤ 40000) (htl : ty.length ≤ 40000)
    (hps : PrsIn w0 (· < B) ps vp) (hsm : ∀ p ∈ ps, p.name.length ≤ 40000 ∧ p.type.length ≤ 40000) (hbd : WritesB w0 B bd vb) (hbs : ∃ A c, vb = .slice A bd.length c) (hq : nameB nm = true) :
    Calls Tryd.prog 63 #[penV Bc Ba, .agg #[.int .i64 6, .int .i64 p, .int .i64 n, .string (strOf nm), .string (strOf ty), vp, vb]] w (PenPost w Bc Ba B u (adv T (penD ⟨6, p, n, nm, ty, ps, bd⟩))) := by
  obtain ⟨Ap, cp, hvp, _, _, _⟩ := id hps
  subst hvp
  obtain ⟨Ab, cb, hvb⟩ := hbs
  subst hvb
  obtain ⟨X, hX⟩ : ∃ X : World, X = w.alloc (.cells #[.int .i64 6, .int .i64 p, .int .i64 n, .string (strOf nm), .string (strOf ty), .slice Ap ps.length cp, .slice Ab bd.length cb] 53) := ⟨_, rfl⟩
  obtain ⟨g, hg⟩ : ∃ g, g = w.heap.size := ⟨_, rfl⟩
  have hd : DcBlk X g 6 p n (strOf nm) (strOf ty) (.slice Ap ps.length cp) (.slice Ab bd.length cb) := by rw [hX, hg]; exact DcBlk.new _ _ _ _ _ _ _ _
  have hw : Went w Bc Ba B u X u T := by rw [hX]; exact (Went.refl hp).alloc _
  have hg1 : Bc < g := by rw [hg]; exact lt_of_heap hp.cnt
  have hg2 : Ba < g := by rw [hg]; exact lt_of_heap hp.buf
  have hwg : w.heap.size ≤ g := by rw [hg]; exact Nat.le_refl _
  have hsz : (strOf nm).size ≤ 40000 := by rw [Lib.size_eq, strOf_data]; exact hnl
  have HX := Lib.hid hX
  have HG := Lib.hid hg
  have HD := Lib.hid hd
  have HW := Lib.hid hw
  have HPS := Lib.hid hps
  have HSM := Lib.hid hsm
  clear hX hg hd hw hps hsm
  have HEQ := Lib.hid (congrArg (adv T) (penD_6 p n nm ty ps bd hq))
  have HTN := Lib.hid (takeName_yes ⟨g, 3, none⟩ (strOf nm) X HD.out.c3 (HD.out.frz 3) hsz hq)
  unfold penV
  go_enter Tryd.func63, Tryd.ntmps63
  go_wp2_with fail
  rw [← HX.out, ← HG.out]
  refine HTN.out.mono ?_
  rintro e1 w1 ⟨rfl, wm, hbl, hw1⟩
  have HW1 : Hid (Went w Bc Ba B u w1 u T) := Lib.hid (by rw [hw1]; exact (HW.out.below hbl).setCell _ _ hwg ((HD.out).apart (HW.out).1 hg1 hg2))
  have HD1 := Lib.hid (show DcBlk w1 g 6 p n (strOf []) (strOf ty) (.slice Ap ps.length cp) (.slice Ab bd.length cb) from by rw [hw1]; exact (HD.out.below hbl HD.out.lt).s3 _)
  clear hbl hw1
  have a2 := (HD1.out).c0
  go_wp2_with fail
  refine (put_new (Went.refl (HW1.out).1) (Nat.le_trans hB (HW1.out).2.2.size) [[115, 105, 110, 107], nm, [59]] (by intro t ht; simp at ht; have := hnl; have := htl; first | (rcases ht with rfl | rfl | rfl | rfl <;> first | decide | assumption | simp) | (rcases ht with rfl | rfl | rfl <;> first | decide | assumption | simp) | (rcases ht with rfl | rfl <;> first | decide | assumption | simp) | (rw [ht]; first | decide | assumption) | (rw [ht]; simp)) (by simp)).mono ?_
  rintro e3 w3 hpost
  cases hR : adv T (some [[115, 105, 110, 107], nm, [59]]) with
  | none =>
    rw [hR] at hpost
    obtain ⟨rfl, hch⟩ := hpost
    have HNO := Lib.hid ((HEQ.out).trans (adv_cat_none hR _))
    have HCH := Lib.hid ((HW1.out).fell hch)
    clear hR hch
    unfold boom
    go_wp2
    refine ⟨rfl, ?_⟩
    rw [HNO.out]
    exact ⟨rfl, HCH.out⟩
  | some T3 =>
    rw [hR] at hpost
    obtain ⟨rfl, u3, hwent⟩ := hpost
    have HW3 := Lib.hid ((HW1.out).trans hwent)
    have HD3 := Lib.hid ((HD1.out).went (HW1.out).1 hg1 hg2 hwent)
    have HEQ3 := Lib.hid ((HEQ.out).trans (adv_cat_some hR _))
    clear hwent hR
    have c2 := (HD3.out).c2
    have c4 := (HD3.out).c4
    have c5 := (HD3.out).c5
    have c6 := (HD3.out).c6
    have hz0 : (strOf []).toList = [] := strOf_toList []
    obtain ⟨nx, hnx⟩ : ∃ m, m = ps.length := ⟨_, rfl⟩
    rw [← hnx] at c5
    obtain ⟨nb, hnb⟩ : ∃ m, m = bd.length := ⟨_, rfl⟩
    rw [← hnb] at c6
    by_cases hn : n = 0
    case neg =>
      have HNO := Lib.hid ((HEQ3.out).trans (show adv T3 (need _ (some [])) = none from by rw [need_no (fun h => hn h.1)]; rfl))
      have hs1 : (n == 0) = false := by rw [beq_eq_false_iff_ne]; exact hn
      clear hnx hnb hn
      go_wp2_with fail
      refine (must_no _).mono ?_
      rintro e9 w9 ⟨rfl, rfl⟩
      unfold boom
      go_wp2
      refine ⟨rfl, ?_⟩
      rw [HNO.out]
      exact ⟨rfl, (HW3.out).2.2⟩
    by_cases ht : ty = []
    case neg =>
      have HNO := Lib.hid ((HEQ3.out).trans (show adv T3 (need _ (some [])) = none from by rw [need_no (fun h => ht h.2.1)]; rfl))
      subst hn
      have hs1 : ¬ (strOf ty).toList = [] := by rw [strOf_toList]; exact ht
      clear hnx hnb ht
      go_wp2_with fail
      refine (must_no _).mono ?_
      rintro e9 w9 ⟨rfl, rfl⟩
      unfold boom
      go_wp2
      refine ⟨rfl, ?_⟩
      rw [HNO.out]
      exact ⟨rfl, (HW3.out).2.2⟩
    by_cases hx : ps.length = 0
    case neg =>
      have HNO := Lib.hid ((HEQ3.out).trans (show adv T3 (need _ (some [])) = none from by rw [need_no (fun h => hx h.2.2.1)]; rfl))
      subst hn
      subst ht
      have hl1 : (nx == 0) = false := by rw [beq_eq_false_iff_ne]; omega
      have hl2 : ((nx : Int) == 0) = false := by rw [beq_eq_false_iff_ne]; omega
      clear hnx hnb hx
      go_wp2_with fail
      refine (must_no _).mono ?_
      rintro e9 w9 ⟨rfl, rfl⟩
      unfold boom
      go_wp2
      refine ⟨rfl, ?_⟩
      rw [HNO.out]
      exact ⟨rfl, (HW3.out).2.2⟩
    by_cases hbl0 : bd.length = 0
    case neg =>
      have HNO := Lib.hid ((HEQ3.out).trans (show adv T3 (need _ (some [])) = none from by rw [need_no (fun h => hbl0 h.2.2.2)]; rfl))
      subst hn
      subst ht
      obtain rfl : nx = 0 := by omega
      have hl1 : (nb == 0) = false := by rw [beq_eq_false_iff_ne]; omega
      have hl2 : ((nb : Int) == 0) = false := by rw [beq_eq_false_iff_ne]; omega
      clear hnx hnb hx hbl0
      go_wp2_with fail
      refine (must_no _).mono ?_
      rintro e9 w9 ⟨rfl, rfl⟩
      unfold boom
      go_wp2
      refine ⟨rfl, ?_⟩
      rw [HNO.out]
      exact ⟨rfl, (HW3.out).2.2⟩
    have HFIN := Lib.hid ((HEQ3.out).trans (show adv T3 (need _ (some [])) = some T3 from by rw [need_yes ⟨hn, ht, hx, hbl0⟩]; exact adv_nil (HW3.out).1.fit))
    subst hn
    subst ht
    obtain rfl : nx = 0 := by omega
    obtain rfl : nb = 0 := by omega
    clear hnx hnb hx hbl0
    go_wp2_with fail
    refine (must_yes _).mono ?_
    rintro e9 w9 ⟨rfl, rfl⟩
    go_wp2
    go_end0
    rw [HFIN.out]
    exact ⟨rfl, _, HW3.out⟩

end Go.Proofs.YtmbkjabjcphkbaaDoor
end
