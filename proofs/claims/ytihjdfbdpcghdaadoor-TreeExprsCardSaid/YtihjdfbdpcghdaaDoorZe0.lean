/- Wb -/
import Derived.Test.YtihjdfbdpcghdaaDoorZc6
import Derived.IntWalk
set_option linter.unusedVariables false
namespace Go.Proofs.YtihjdfbdpcghdaaDoor
open Go.RowKit
theorem comma_any {w : World} {Bc Ba B : Nat} {u : Value} {T : List (List UInt8)} (hp : PenAt w Bc Ba B u T) (hB : B ≤ w.heap.size) (i : Nat) (C : Ts) (hC : C = some (if i = 0 then [] else [[44]])) :
    Calls Tryd.prog 61 #[penV Bc Ba, .int .i64 i] w (PenPost w Bc Ba B u (adv T C)) := by
  unfold penV
  by_cases hi : i = 0
  · subst hi
    have HP := Lib.hid hp
    have HC : Hid (C = some []) := Lib.hid (hC.trans (by rw [if_pos rfl]))
    clear hp hC
    go_enter Tryd.func61, Tryd.ntmps61
    go_wp2_with fail
    go_end0
    rw [HC.out, adv_nil HP.out.fit]
    exact ⟨rfl, u, Went.refl HP.out⟩
  · have h0 : 0 < i := by omega
    have HC : Hid (C = some [[44]]) := Lib.hid (hC.trans (by rw [if_neg hi]))
    have HP := Lib.hid (put_new (Went.refl hp) hB [[44]] (by simp) (by simp))
    clear hi hp hC
    go_enter Tryd.func61, Tryd.ntmps61
    go_wp2_with fail
    refine HP.out.mono ?_
    rintro e w9 hpost
    cases hR : adv T (some [[44]]) with
    | none =>
      rw [hR] at hpost
      obtain ⟨rfl, hch⟩ := hpost
      unfold boom
      go_wp2
      refine ⟨rfl, ?_⟩
      rw [HC.out, hR]
      exact ⟨rfl, hch⟩
    | some U =>
      rw [hR] at hpost
      obtain ⟨rfl, u1, hwent⟩ := hpost
      have HWF := Lib.hid hwent
      clear hwent
      go_wp2
      go_end0
      rw [HC.out, hR]
      exact ⟨rfl, u1, HWF.out⟩
theorem place_any (k p n : Int) (s : ByteArray) (A : Option Addr) (m c : Nat) (w : World) (t : Bool) (ht : t = decide (k = 4 ∨ k = 5 ∨ k = 6)) :
    Calls Tryd.prog 72 #[.agg #[.int .i64 k, .int .i64 p, .int .i64 n, .string s, .slice A m c]] w fun e w' => e = .returned (.bool t) ∧ Below w.heap.size w w' := by
  have HT := Lib.hid ht
  clear ht
  go_enter Tryd.func72, Tryd.ntmps72
  go_wp2_with fail
  all_goals
    go_ret
    refine ⟨ret_bool ?_, (Below.refl _ w).alloc (Nat.le_refl _) _⟩
    rw [HT.out]
    first | rfl | (rw [Bool.eq_iff_iff]; simp; try omega)
theorem elemsC_drop {es : List Ex} {j : Nat} (h : j < es.length) (D : Int) : elemsC (es.drop j) j D = cat (some (if j = 0 then [] else [[44]])) (cat (penE es[j] D 0) (elemsC (es.drop (j + 1)) (j + 1) D)) := by
  rw [List.drop_eq_getElem_cons h, elemsC, cat_assoc]
set_option maxRecDepth 100000 in
set_option maxHeartbeats 2000000 in
theorem args_any {w0 w : World} {Bc Ba B : Nat} {u : Value} {T : List (List UInt8)} (hb : Below B w0 w) (hB : B ≤ w.heap.size) (hp : PenAt w Bc Ba B u T) (es : List Ex) {V : Value} (hr : Reads w0 B es V) (D : Int) (hD0 : 0 ≤ D) (hD : D ≤ 100) :
    Calls Tryd.prog 84 #[penV Bc Ba, V, .int .i64 D] w (PenPost w Bc Ba B u (adv T (argsC es D))) := by
  obtain ⟨A, c, rfl, hc, hM, hA⟩ := hr
  obtain ⟨n, hn⟩ : ∃ n, n = es.length := ⟨_, rfl⟩
  rw [← hn] at hc ⊢
  by_cases h4 : n ≤ 4
  · have h4' : decide ((n : Int) ≤ 4) = true := by rw [decide_eq_true_eq]; omega
    have HEQ : Hid (adv T (argsC es D) = adv T (cat (some [[40]]) (cat (elemsC es 0 D) (some [[41]])))) := Lib.hid (congrArg (adv T) (need_yes (p := es.length ≤ 4) (by omega) (cat (some [[40]]) (cat (elemsC es 0 D) (some [[41]])))))
    have HN := Lib.hid hn
    have HA := Lib.hid hA
    have HP := Lib.hid hp
    have HBB := Lib.hid hb
    unfold penV
    clear hn hA h4 hp hb
    go_enter Tryd.func84, Tryd.ntmps84
    go_wp2_with fail
    refine (must_yes _).mono ?_
    rintro e w1 ⟨rfl, rfl⟩
    go_wp2_with fail
    refine (put_new (Went.refl HP.out) hB [[40]] (by simp) (by simp)).mono ?_
    rintro e1 w1 hpost
    cases hR : adv T (some [[40]]) with
    | none =>
      rw [hR] at hpost
      obtain ⟨rfl, hch⟩ := hpost
      have HNO := Lib.hid (HEQ.out.trans (adv_cat_none hR _))
      clear hR
      unfold boom
      go_wp2
      refine ⟨rfl, ?_⟩
      rw [HNO.out]
      exact ⟨rfl, hch⟩
    | some T1 =>
      rw [hR] at hpost
      obtain ⟨rfl, u1, hwent⟩ := hpost
      have HW1 := Lib.hid hwent
      have HEQ1 := Lib.hid (HEQ.out.trans (adv_cat_some hR _))
      clear hwent hR
      go_wp2_with fail
      go_loopw [17] (fun i wr => ∃ (j : Nat) (u' : Value) (T' : List (List UInt8)), j ≤ n ∧ i = .int .i64 j ∧ Hid (Went w Bc Ba B u wr u' T') ∧ Hid (adv T (argsC es D) = adv T' (cat (elemsC (es.drop j) j D) (some [[41]])))) (fun i _ => n - (intOf i).toNat)
      case atStart => exact ⟨0, u1, T1, Nat.zero_le _, rfl, HW1, HEQ1⟩
      case round =>
        obtain ⟨wo, rfl⟩ : ∃ wo : World, wo = wr := ⟨_, rfl⟩
        obtain ⟨j, u2, T2, hj, rfl, HW2, HEQ2⟩ := hrel
        by_cases hlt : j < n
        · have hjt : j < es.length := by rw [← HN.out]; exact hlt
          obtain ⟨b, off, A5, n5, c5, rfl, hbB, hnm, r0, r1, r2, r3, r4, hWr⟩ := HA.out j hjt
          have hbw : Below B w0 wo := HBB.out.trans (HW2.out.2.2.below hB (fun x hx => (HP.out.mine hx).1))
          have up : ∀ {i : Nat} {v : Value}, w0.cell? ⟨b, i, none⟩ = some v → wo.cell? ⟨b, i, none⟩ = some v := fun h => (hbw.cell hbB).trans h
          have r0 := up r0
          have r1 := up r1
          have r2 := up r2
          have r3 := up r3
          have r4 := up r4
          have hdr := elemsC_drop hjt D
          obtain ⟨E, hE⟩ : ∃ E, E = es[j] := ⟨_, rfl⟩
          rw [← hE] at r0 r1 r2 r3 hWr hnm hdr
          clear up hE
          have HDR := Lib.hid hdr
          have HWR := Lib.hid hWr
          have HBW := Lib.hid hbw
          clear hdr hWr hbw hnm
          obtain ⟨C, hC⟩ : ∃ C : Ts, C = some (if j = 0 then [] else [[44]]) := ⟨_, rfl⟩
          obtain ⟨Y, hY⟩ : ∃ Y : World, Y = wo.alloc (.cells #[.int .i64 E.kind, .int .i64 E.pl, .int .i64 E.num, .string (strOf E.name), .slice A5 n5 c5] 24) := ⟨_, rfl⟩
          have hwy : Went w Bc Ba B u Y u2 T2 := by rw [hY]; exact HW2.out.alloc _
          have hblk : ExBlk Y wo.heap.size E.kind E.pl E.num (strOf E.name) (.slice A5 n5 c5) := by rw [hY]; exact ExBlk.new wo _ _ _ _ _
          have hBy : B ≤ Y.heap.size := Nat.le_trans hB hwy.2.2.size
          have hcm := comma_any hwy.1 hBy j C hC
          have HDR2 : Hid (elemsC (es.drop j) j D = cat C (cat (penE E D 0) (elemsC (es.drop (j + 1)) (j + 1) D))) := Lib.hid (by rw [HDR.out, hC])
          have hmn : ∀ x, Mine Bc Ba u2 x → x < wo.heap.size := fun x hx => (HW2.out.1.mine hx).2
          have HEQ3 : Hid (adv T (argsC es D) = adv T2 (cat C (cat (penE E D 0) (cat (elemsC (es.drop (j + 1)) (j + 1) D) (some [[41]]))))) := Lib.hid (by rw [HEQ2.out, HDR2.out, cat_assoc, cat_assoc])
          have HWY := Lib.hid hwy
          have HBLK := Lib.hid hblk
          have HY := Lib.hid hY
          have HCM := Lib.hid hcm
          have HMN := Lib.hid hmn
          clear hwy hblk hY hcm hC HDR HDR2 hmn
          unfold penV at HCM
          go_wp2_with fail
          rw [← HY.out]
          refine HCM.out.mono ?_
          rintro e3 w3 hpost
          cases hR : adv T2 C with
          | none =>
            rw [hR] at hpost
            obtain ⟨rfl, hch⟩ := hpost
            have HNO := Lib.hid (HEQ3.out.trans (adv_cat_none hR _))
            have HCH := Lib.hid (HWY.out.fell hch)
            clear hR hch
            unfold boom
            go_wp2
            refine ⟨rfl, ?_⟩
            rw [HNO.out]
            exact ⟨rfl, HCH.out⟩
          | some T3 =>
            rw [hR] at hpost
            obtain ⟨rfl, u3, hwent⟩ := hpost
            have HW3 := Lib.hid (HWY.out.trans hwent)
            have HEQ4 := Lib.hid (HEQ3.out.trans (adv_cat_some hR _))
            have hb3 : ExBlk w3 wo.heap.size E.kind E.pl E.num (strOf E.name) (.slice A5 n5 c5) := (hwent.2.2.block _ (lt_of_heap HBLK.out) (fun hm => by have := HMN.out _ hm; omega)).trans HBLK.out
            have hb03 : Below B w0 w3 := HBB.out.trans (HW3.out.2.2.below hB (fun x hx => (HP.out.mine hx).1))
            have hcall := HWR.out w3 Bc Ba u3 T3 D 0 hb03 (Nat.le_trans hB HW3.out.2.2.size) HW3.out.1 hD0 hD (by omega) (by omega)
            have k0 := hb3.c0
            have k1 := hb3.c1
            have k2 := hb3.c2
            have k3 := hb3.c3
            have k4 := hb3.c4
            have HCALL := Lib.hid hcall
            clear hwent hR hb3 hb03 hcall
            unfold penV at HCALL
            go_wp2_with fail
            refine HCALL.out.mono ?_
            rintro e4 w4 hpost
            cases hR : adv T3 (penE E D 0) with
            | none =>
              rw [hR] at hpost
              obtain ⟨rfl, hch⟩ := hpost
              have HNO := Lib.hid (HEQ4.out.trans (adv_cat_none hR _))
              have HCH := Lib.hid (HW3.out.fell hch)
              clear hR hch
              unfold boom
              go_wp2
              refine ⟨rfl, ?_⟩
              rw [HNO.out]
              exact ⟨rfl, HCH.out⟩
            | some T4 =>
              rw [hR] at hpost
              obtain ⟨rfl, u4, hwent⟩ := hpost
              have HW4 := Lib.hid (HW3.out.trans hwent)
              have HEQ5 := Lib.hid (HEQ4.out.trans (adv_cat_some hR _))
              clear hwent hR
              go_wp2_with fail
              go_roundw
              case rel => exact ⟨j + 1, u4, T4, by omega, by go_num, HW4, HEQ5⟩
              case measure => simp [intOf]; omega
        · have hjn : j = n := by omega
          subst hjn
          have hdn : es.drop j = [] := List.drop_of_length_le (by rw [HN.out]; exact Nat.le_refl _)
          have HEQ3 : Hid (adv T (argsC es D) = adv T2 (some [[41]])) := Lib.hid (by rw [HEQ2.out, hdn, elemsC, cat_nil_l])
          clear hdn
          go_wp2_with fail
          refine (put_new (Went.refl HW2.out.1) (Nat.le_trans hB HW2.out.2.2.size) [[41]] (by simp) (by simp)).mono ?_
          rintro e4 w4 hpost
          cases hR : adv T2 (some [[41]]) with
          | none =>
            rw [hR] at hpost
            obtain ⟨rfl, hch⟩ := hpost
            have HNO := Lib.hid (HEQ3.out.trans hR)
            have HCH := Lib.hid (HW2.out.fell hch)
            clear hR hch
            unfold boom
            go_wp2
            refine ⟨rfl, ?_⟩
            rw [HNO.out]
            exact ⟨rfl, HCH.out⟩
          | some T4 =>
            rw [hR] at hpost
            obtain ⟨rfl, u4, hwent⟩ := hpost
            have HW4 := Lib.hid (HW2.out.trans hwent)
            have HFIN := Lib.hid (HEQ3.out.trans hR)
            clear hwent hR
            go_wp2
            go_end0
            rw [HFIN.out]
            exact ⟨rfl, u4, HW4.out⟩
  · have h4' : decide ((n : Int) ≤ 4) = false := by rw [decide_eq_false_iff_not]; omega
    have HNO : Hid (adv T (argsC es D) = none) := Lib.hid (by unfold argsC; rw [need_no (by omega)]; rfl)
    clear hn hA h4 hp hb
    unfold penV
    go_enter Tryd.func84, Tryd.ntmps84
    go_wp2_with fail
    refine (must_no _).mono ?_
    rintro e w1 ⟨rfl, rfl⟩
    unfold boom
    go_wp2
    refine ⟨rfl, ?_⟩
    rw [HNO.out]
    exact ⟨rfl, Chg.refl _ _⟩
end Go.Proofs.YtihjdfbdpcghdaaDoor
