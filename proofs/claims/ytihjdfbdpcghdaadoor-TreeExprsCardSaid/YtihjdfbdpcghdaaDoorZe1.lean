/- Xb -/
import Derived.Test.YtihjdfbdpcghdaaDoorZe2
import Derived.IntWalk
set_option linter.unusedVariables false
namespace Go.Proofs.YtihjdfbdpcghdaaDoor
open Go.RowKit
theorem pair_pr {w : World} {Bc Ba B : Nat} {u : Value} {T : List (List UInt8)} (hp : PenAt w Bc Ba B u T) (hB : B ≤ w.heap.size) (E : Pr) (hn : E.name.length ≤ 40000) (ht : E.type.length ≤ 40000) :
    Calls Tryd.prog 60 #[penV Bc Ba, .agg #[.string (strOf E.name), .string (strOf E.type)]] w (PenPost w Bc Ba B u (adv T (penPr E))) := pair_any hp hB E.name E.type hn ht
theorem penFs_drop {ps : List Pr} {j : Nat} (h : j < ps.length) : penFs (ps.drop j) = cat (penPr ps[j]) (cat (some [[59]]) (penFs (ps.drop (j + 1)))) := by
  rw [List.drop_eq_getElem_cons h, penFs, cat_assoc]
set_option maxRecDepth 100000 in
set_option maxHeartbeats 2000000 in
theorem fields_any {w0 w : World} {Bc Ba B : Nat} {u : Value} {T : List (List UInt8)} (hb : Below B w0 w) (hB : B ≤ w.heap.size) (hp : PenAt w Bc Ba B u T) (ps : List Pr) {V : Value} (hr : PrsIn w0 (· < B) ps V) (hsm : ∀ p ∈ ps, p.name.length ≤ 40000 ∧ p.type.length ≤ 40000) :
    Calls Tryd.prog 51 #[penV Bc Ba, V] w (PenPost w Bc Ba B u (adv T (need (ps.length ≤ 8) (cat (some [[123]]) (cat (penFs ps) (some [[125]])))))) := by
  obtain ⟨A, c, rfl, hc, hM, hA⟩ := hr
  obtain ⟨n, hn⟩ : ∃ n, n = ps.length := ⟨_, rfl⟩
  obtain ⟨Q, hQ⟩ : ∃ Q : Ts, Q = need (ps.length ≤ 8) (cat (some [[123]]) (cat (penFs ps) (some [[125]]))) := ⟨_, rfl⟩
  rw [← hn] at hc
  rw [← hQ, ← hn]
  by_cases h4 : n ≤ 8
  · have h4' : decide ((n : Int) ≤ 8) = true := by rw [decide_eq_true_eq]; omega
    have HEQ : Hid (adv T Q = adv T (cat (some [[123]]) (cat (penFs ps) (some [[125]])))) := Lib.hid (by rw [hQ, need_yes (by omega)])
    have HN := Lib.hid hn
    have HA := Lib.hid hA
    have HP := Lib.hid hp
    have HBB := Lib.hid hb
    have HSM := Lib.hid hsm
    unfold penV
    clear hn hA h4 hp hb hsm hQ
    go_enter Tryd.func51, Tryd.ntmps51
    go_wp2_with fail
    refine (must_yes _).mono ?_
    rintro e w1 ⟨rfl, rfl⟩
    go_wp2_with fail
    refine (put_new (Went.refl HP.out) hB [[123]] (by simp) (by simp)).mono ?_
    rintro e1 w1 hpost
    cases hR : adv T (some [[123]]) with
    | none =>
      rw [hR] at hpost
      obtain ⟨rfl, hch⟩ := hpost
      have HNO := Lib.hid (HEQ.out.trans (adv_cat_none hR _))
      clear hR
      unfold boom
      go_wp2
      refine ⟨rfl, ?_⟩
      rw [HNO.out]
      exact ⟨rfl, hch⟩
    | some T1 =>
      rw [hR] at hpost
      obtain ⟨rfl, u1, hwent⟩ := hpost
      have HW1 := Lib.hid hwent
      have HEQ1 := Lib.hid (HEQ.out.trans (adv_cat_some hR _))
      clear hwent hR
      go_wp2_with fail
      go_loopw [15] (fun i wr => ∃ (j : Nat) (u' : Value) (T' : List (List UInt8)), j ≤ n ∧ i = .int .i64 j ∧ Hid (Went w Bc Ba B u wr u' T') ∧ Hid (adv T Q = adv T' (cat (penFs (ps.drop j)) (some [[125]])))) (fun i _ => n - (intOf i).toNat)
      case atStart => exact ⟨0, u1, T1, Nat.zero_le _, rfl, HW1, HEQ1⟩
      case round =>
        obtain ⟨wo, rfl⟩ : ∃ wo : World, wo = wr := ⟨_, rfl⟩
        obtain ⟨j, u2, T2, hj, rfl, HW2, HEQ2⟩ := hrel
        by_cases hlt : j < n
        · have hjt : j < ps.length := by rw [← HN.out]; exact hlt
          obtain ⟨b, off, rfl, hbB, _, _, r0, r1⟩ := HA.out j hjt
          have hbw : Below B w0 wo := HBB.out.trans (HW2.out.2.2.below hB (fun x hx => (HP.out.mine hx).1))
          have r0 := (hbw.cell (p := ⟨b, off + j * 2, none⟩) hbB).trans r0
          have r1 := (hbw.cell (p := ⟨b, off + j * 2 + 1, none⟩) hbB).trans r1
          obtain ⟨s1, s2⟩ := HSM.out ps[j] (List.getElem_mem _)
          have hdr := penFs_drop hjt
          obtain ⟨E, hE⟩ : ∃ E, E = ps[j] := ⟨_, rfl⟩
          rw [← hE] at r0 r1 hdr s1 s2
          clear hE
          obtain ⟨Y, hY⟩ : ∃ Y : World, Y = wo.alloc (.cells #[.string (strOf E.name), .string (strOf E.type)] 93) := ⟨_, rfl⟩
          have HW3 : Hid (Went w Bc Ba B u Y u2 T2) := Lib.hid (by rw [hY]; exact HW2.out.alloc _)
          have HY := Lib.hid hY
          have HS1 := Lib.hid s1
          have HS2 := Lib.hid s2
          obtain ⟨T3, hT3⟩ : ∃ T3, T3 = T2 := ⟨_, rfl⟩
          obtain ⟨u3, hu3⟩ : ∃ u3, u3 = u2 := ⟨_, rfl⟩
          rw [← hT3, ← hu3] at HW3
          have HEQ3 : Hid (adv T Q = adv T3 (cat (penPr E) (cat (some [[59]]) (cat (penFs (ps.drop (j + 1))) (some [[125]]))))) := Lib.hid (by rw [HEQ2.out, hT3, hdr, cat_assoc, cat_assoc])
          have HPR := Lib.hid (pair_pr HW3.out.1 (Nat.le_trans hB HW3.out.2.2.size) E s1 s2)
          clear hY hdr hbw s1 s2 hT3 hu3
          unfold penV at HPR
          go_wp2_with fail
          rw [← HY.out]
          refine (HPR.out).mono ?_
          rintro e4 w4 hpost
          cases hR : adv T3 (penPr E) with
          | none =>
            rw [hR] at hpost
            obtain ⟨rfl, hch⟩ := hpost
            have HNO := Lib.hid (HEQ3.out.trans (adv_cat_none hR _))
            have HCH := Lib.hid (HW3.out.fell hch)
            clear hR hch
            unfold boom
            go_wp2
            refine ⟨rfl, ?_⟩
            rw [HNO.out]
            exact ⟨rfl, HCH.out⟩
          | some T4 =>
            rw [hR] at hpost
            obtain ⟨rfl, u4, hwent⟩ := hpost
            have HW4 := Lib.hid (HW3.out.trans hwent)
            have HEQ4 := Lib.hid (HEQ3.out.trans (adv_cat_some hR _))
            clear hwent hR
            go_wp2_with fail
            refine (put_new (Went.refl HW4.out.1) (Nat.le_trans hB HW4.out.2.2.size) [[59]] (by simp) (by simp)).mono ?_
            rintro e5 w5 hpost
            cases hR : adv T4 (some [[59]]) with
            | none =>
              rw [hR] at hpost
              obtain ⟨rfl, hch⟩ := hpost
              have HNO := Lib.hid (HEQ4.out.trans (adv_cat_none hR _))
              have HCH := Lib.hid (HW4.out.fell hch)
              clear hR hch
              unfold boom
              go_wp2
              refine ⟨rfl, ?_⟩
              rw [HNO.out]
              exact ⟨rfl, HCH.out⟩
            | some T5 =>
              rw [hR] at hpost
              obtain ⟨rfl, u5, hwent⟩ := hpost
              have HW5 := Lib.hid (HW4.out.trans hwent)
              have HEQ5 := Lib.hid (HEQ4.out.trans (adv_cat_some hR _))
              clear hwent hR
              go_wp2_with fail
              go_roundw
              case rel => exact ⟨j + 1, u5, T5, by omega, by go_num, HW5, HEQ5⟩
              case measure => simp [intOf]; omega
        · have hjn : j = n := by omega
          subst hjn
          have hdn : ps.drop j = [] := List.drop_of_length_le (by rw [HN.out]; exact Nat.le_refl _)
          have HEQ3 : Hid (adv T Q = adv T2 (some [[125]])) := Lib.hid (by rw [HEQ2.out, hdn, penFs, cat_nil_l])
          clear hdn
          go_wp2_with fail
          refine (put_new (Went.refl HW2.out.1) (Nat.le_trans hB HW2.out.2.2.size) [[125]] (by simp) (by simp)).mono ?_
          rintro e4 w4 hpost
          cases hR : adv T2 (some [[125]]) with
          | none =>
            rw [hR] at hpost
            obtain ⟨rfl, hch⟩ := hpost
            have HNO := Lib.hid (HEQ3.out.trans hR)
            have HCH := Lib.hid (HW2.out.fell hch)
            clear hR hch
            unfold boom
            go_wp2
            refine ⟨rfl, ?_⟩
            rw [HNO.out]
            exact ⟨rfl, HCH.out⟩
          | some T4 =>
            rw [hR] at hpost
            obtain ⟨rfl, u4, hwent⟩ := hpost
            have HW4 := Lib.hid (HW2.out.trans hwent)
            have HFIN := Lib.hid (HEQ3.out.trans hR)
            clear hwent hR
            go_wp2
            go_end0
            rw [HFIN.out]
            exact ⟨rfl, u4, HW4.out⟩
  · have h4' : decide ((n : Int) ≤ 8) = false := by rw [decide_eq_false_iff_not]; omega
    have HNO : Hid (adv T Q = none) := Lib.hid (by rw [hQ, need_no (by omega)]; rfl)
    clear hn hA h4 hp hb hQ
    unfold penV
    go_enter Tryd.func51, Tryd.ntmps51
    go_wp2_with fail
    refine (must_no _).mono ?_
    rintro e w1 ⟨rfl, rfl⟩
    unfold boom
    go_wp2
    refine ⟨rfl, ?_⟩
    rw [HNO.out]
    exact ⟨rfl, Chg.refl _ _⟩
theorem penPs_drop {ps : List Pr} {j : Nat} (h : j < ps.length) : penPs (ps.drop j) j = cat (some (if j = 0 then [] else [[44]])) (cat (penPr ps[j]) (penPs (ps.drop (j + 1)) (j + 1))) := by
  rw [List.drop_eq_getElem_cons h, penPs, cat_assoc]
set_option maxRecDepth 100000 in
set_option maxHeartbeats 2000000 in
theorem params_any {w0 w : World} {Bc Ba B : Nat} {u : Value} {T : List (List UInt8)} (hb : Below B w0 w) (hB : B ≤ w.heap.size) (hp : PenAt w Bc Ba B u T) (ps : List Pr) {V : Value} (hr : PrsIn w0 (· < B) ps V) (hsm : ∀ p ∈ ps, p.name.length ≤ 40000 ∧ p.type.length ≤ 40000) :
    Calls Tryd.prog 53 #[penV Bc Ba, V] w (PenPost w Bc Ba B u (adv T (need (ps.length ≤ 4) (cat (some [[40]]) (cat (penPs ps 0) (some [[41]])))))) := by
  obtain ⟨A, c, rfl, hc, hM, hA⟩ := hr
  obtain ⟨n, hn⟩ : ∃ n, n = ps.length := ⟨_, rfl⟩
  obtain ⟨Q, hQ⟩ : ∃ Q : Ts, Q = need (ps.length ≤ 4) (cat (some [[40]]) (cat (penPs ps 0) (some [[41]]))) := ⟨_, rfl⟩
  rw [← hn] at hc
  rw [← hQ, ← hn]
  by_cases h4 : n ≤ 4
  · have h4' : decide ((n : Int) ≤ 4) = true := by rw [decide_eq_true_eq]; omega
    have HEQ : Hid (adv T Q = adv T (cat (some [[40]]) (cat (penPs ps 0) (some [[41]])))) := Lib.hid (by rw [hQ, need_yes (by omega)])
    have HN := Lib.hid hn
    have HA := Lib.hid hA
    have HP := Lib.hid hp
    have HBB := Lib.hid hb
    have HSM := Lib.hid hsm
    unfold penV
    clear hn hA h4 hp hb hsm hQ
    go_enter Tryd.func53, Tryd.ntmps53
    go_wp2_with fail
    refine (must_yes _).mono ?_
    rintro e w1 ⟨rfl, rfl⟩
    go_wp2_with fail
    refine (put_new (Went.refl HP.out) hB [[40]] (by simp) (by simp)).mono ?_
    rintro e1 w1 hpost
    cases hR : adv T (some [[40]]) with
    | none =>
      rw [hR] at hpost
      obtain ⟨rfl, hch⟩ := hpost
      have HNO := Lib.hid (HEQ.out.trans (adv_cat_none hR _))
      clear hR
      unfold boom
      go_wp2
      refine ⟨rfl, ?_⟩
      rw [HNO.out]
      exact ⟨rfl, hch⟩
    | some T1 =>
      rw [hR] at hpost
      obtain ⟨rfl, u1, hwent⟩ := hpost
      have HW1 := Lib.hid hwent
      have HEQ1 := Lib.hid (HEQ.out.trans (adv_cat_some hR _))
      clear hwent hR
      go_wp2_with fail
      go_loopw [15] (fun i wr => ∃ (j : Nat) (u' : Value) (T' : List (List UInt8)), j ≤ n ∧ i = .int .i64 j ∧ Hid (Went w Bc Ba B u wr u' T') ∧ Hid (adv T Q = adv T' (cat (penPs (ps.drop j) j) (some [[41]])))) (fun i _ => n - (intOf i).toNat)
      case atStart => exact ⟨0, u1, T1, Nat.zero_le _, rfl, HW1, HEQ1⟩
      case round =>
        obtain ⟨wo, rfl⟩ : ∃ wo : World, wo = wr := ⟨_, rfl⟩
        obtain ⟨j, u2, T2, hj, rfl, HW2, HEQ2⟩ := hrel
        by_cases hlt : j < n
        · have hjt : j < ps.length := by rw [← HN.out]; exact hlt
          obtain ⟨b, off, rfl, hbB, _, _, r0, r1⟩ := HA.out j hjt
          have hbw : Below B w0 wo := HBB.out.trans (HW2.out.2.2.below hB (fun x hx => (HP.out.mine hx).1))
          have r0 := (hbw.cell (p := ⟨b, off + j * 2, none⟩) hbB).trans r0
          have r1 := (hbw.cell (p := ⟨b, off + j * 2 + 1, none⟩) hbB).trans r1
          obtain ⟨s1, s2⟩ := HSM.out ps[j] (List.getElem_mem _)
          have hdr := penPs_drop hjt
          obtain ⟨E, hE⟩ : ∃ E, E = ps[j] := ⟨_, rfl⟩
          rw [← hE] at r0 r1 hdr s1 s2
          clear hE
          obtain ⟨Y, hY⟩ : ∃ Y : World, Y = wo.alloc (.cells #[.string (strOf E.name), .string (strOf E.type)] 93) := ⟨_, rfl⟩
          have HW3 : Hid (Went w Bc Ba B u Y u2 T2) := Lib.hid (by rw [hY]; exact HW2.out.alloc _)
          have HY := Lib.hid hY
          have HS1 := Lib.hid s1
          have HS2 := Lib.hid s2
          obtain ⟨T3, hT3⟩ : ∃ T3, T3 = T2 := ⟨_, rfl⟩
          obtain ⟨u3, hu3⟩ : ∃ u3, u3 = u2 := ⟨_, rfl⟩
          rw [← hT3, ← hu3] at HW3
          obtain ⟨C, hC⟩ : ∃ C : Ts, C = some (if j = 0 then [] else [[44]]) := ⟨_, rfl⟩
          have HEQ3 : Hid (adv T Q = adv T3 (cat C (cat (penPr E) (cat (penPs (ps.drop (j + 1)) (j + 1)) (some [[41]]))))) := Lib.hid (by rw [HEQ2.out, hT3, hdr, ← hC, cat_assoc, cat_assoc])
          have HCM := Lib.hid (comma_any HW3.out.1 (Nat.le_trans hB HW3.out.2.2.size) j C hC)
          have hblk : Y.heap[wo.heap.size]? = some (.cells #[.string (strOf E.name), .string (strOf E.type)] 93 (0, 0)) := by rw [hY]; exact heap_alloc_new _ _
          have HBLK := Lib.hid hblk
          have HMN : Hid (∀ x, Mine Bc Ba u3 x → x < wo.heap.size) := Lib.hid (fun x hx => by rw [hu3] at hx; exact (HW2.out.1.mine hx).2)
          clear hY hdr hbw s1 s2 hT3 hu3 hC hblk
          unfold penV at HCM
          go_wp2_with fail
          rw [← HY.out]
          refine (HCM.out).mono ?_
          rintro e4 w4 hpost
          cases hR : adv T3 (C) with
          | none =>
            rw [hR] at hpost
            obtain ⟨rfl, hch⟩ := hpost
            have HNO := Lib.hid (HEQ3.out.trans (adv_cat_none hR _))
            have HCH := Lib.hid (HW3.out.fell hch)
            clear hR hch
            unfold boom
            go_wp2
            refine ⟨rfl, ?_⟩
            rw [HNO.out]
            exact ⟨rfl, HCH.out⟩
          | some T4 =>
            rw [hR] at hpost
            obtain ⟨rfl, u4, hwent⟩ := hpost
            have HW4 := Lib.hid (HW3.out.trans hwent)
            have HEQ4 := Lib.hid (HEQ3.out.trans (adv_cat_some hR _))
            have hb4 := (hwent.2.2.block _ (lt_of_heap HBLK.out) (fun hm => by have := HMN.out _ hm; omega)).trans HBLK.out
            have p0 := cell_of_row w4 wo.heap.size 0 _ _ (0, 0) hb4
            have p1 := cell_of_row w4 wo.heap.size 1 _ _ (0, 0) hb4
            simp at p0 p1
            clear hb4
            clear hwent hR
            have HPR := Lib.hid (pair_pr HW4.out.1 (Nat.le_trans hB HW4.out.2.2.size) E HS1.out HS2.out)
            unfold penV at HPR
            go_wp2_with fail
            refine (HPR.out).mono ?_
            rintro e5 w5 hpost
            cases hR : adv T4 (penPr E) with
            | none =>
              rw [hR] at hpost
              obtain ⟨rfl, hch⟩ := hpost
              have HNO := Lib.hid (HEQ4.out.trans (adv_cat_none hR _))
              have HCH := Lib.hid (HW4.out.fell hch)
              clear hR hch
              unfold boom
              go_wp2
              refine ⟨rfl, ?_⟩
              rw [HNO.out]
              exact ⟨rfl, HCH.out⟩
            | some T5 =>
              rw [hR] at hpost
              obtain ⟨rfl, u5, hwent⟩ := hpost
              have HW5 := Lib.hid (HW4.out.trans hwent)
              have HEQ5 := Lib.hid (HEQ4.out.trans (adv_cat_some hR _))
              clear hwent hR
              go_wp2_with fail
              go_roundw
              case rel => exact ⟨j + 1, u5, T5, by omega, by go_num, HW5, HEQ5⟩
              case measure => simp [intOf]; omega
        · have hjn : j = n := by omega
          subst hjn
          have hdn : ps.drop j = [] := List.drop_of_length_le (by rw [HN.out]; exact Nat.le_refl _)
          have HEQ3 : Hid (adv T Q = adv T2 (some [[41]])) := Lib.hid (by rw [HEQ2.out, hdn, penPs, cat_nil_l])
          clear hdn
          go_wp2_with fail
          refine (put_new (Went.refl HW2.out.1) (Nat.le_trans hB HW2.out.2.2.size) [[41]] (by simp) (by simp)).mono ?_
          rintro e4 w4 hpost
          cases hR : adv T2 (some [[41]]) with
          | none =>
            rw [hR] at hpost
            obtain ⟨rfl, hch⟩ := hpost
            have HNO := Lib.hid (HEQ3.out.trans hR)
            have HCH := Lib.hid (HW2.out.fell hch)
            clear hR hch
            unfold boom
            go_wp2
            refine ⟨rfl, ?_⟩
            rw [HNO.out]
            exact ⟨rfl, HCH.out⟩
          | some T4 =>
            rw [hR] at hpost
            obtain ⟨rfl, u4, hwent⟩ := hpost
            have HW4 := Lib.hid (HW2.out.trans hwent)
            have HFIN := Lib.hid (HEQ3.out.trans hR)
            clear hwent hR
            go_wp2
            go_end0
            rw [HFIN.out]
            exact ⟨rfl, u4, HW4.out⟩
  · have h4' : decide ((n : Int) ≤ 4) = false := by rw [decide_eq_false_iff_not]; omega
    have HNO : Hid (adv T Q = none) := Lib.hid (by rw [hQ, need_no (by omega)]; rfl)
    clear hn hA h4 hp hb hQ
    unfold penV
    go_enter Tryd.func53, Tryd.ntmps53
    go_wp2_with fail
    refine (must_no _).mono ?_
    rintro e w1 ⟨rfl, rfl⟩
    unfold boom
    go_wp2
    refine ⟨rfl, ?_⟩
    rw [HNO.out]
    exact ⟨rfl, Chg.refl _ _⟩
end Go.Proofs.YtihjdfbdpcghdaaDoor
