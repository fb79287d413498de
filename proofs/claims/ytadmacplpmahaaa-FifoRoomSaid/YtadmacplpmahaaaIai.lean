/- The walk of FifoRoom. -/
import Derived.Test.YtadmacplpmahaaaIae
import Derived.Test.YtadmacplpmahaaaIaf
set_option linter.unusedVariables false
set_option linter.unusedSimpArgs false
namespace Go.Proofs.Ytadmacplpmahaaa
open Go.RowKit

theorem capM_in (p : Int) (h1 : 1 ≤ p) (h4 : p ≤ 4) : ((capM p : Nat) : Int) = p := by unfold capM; rw [if_neg (by omega), if_neg (by omega)]; omega
set_option maxRecDepth 100000 in
set_option maxHeartbeats 4000000 in
theorem room_walk (w : World) (p : Int) (hp : In64 p) (zs : List Int) (v : Value) (hv : Scr KN w (· < w.heap.size) zs v) :
    Calls Try.prog 5 #[.int .i64 p, v] w fun e w' => e = .returned (.bool true) ∧ Below w.heap.size w w' := by
  obtain ⟨A, cz, rfl, hzc, hz63⟩ := hv.form
  have HAL := Lib.hid (alive_any w)
  have HV := Lib.hid hv
  have HIN := Lib.hid hp
  obtain ⟨n, hn⟩ : ∃ n, n = zs.length := ⟨_, rfl⟩
  rw [← hn] at hzc ⊢
  have HN := Lib.hid hn
  clear hv hn hp
  by_cases hbig : 300 < n
  · go_enter Try.func5, Try.ntmps5
    go_wp2_with fail
    refine HAL.out.mono ?_
    rintro e w1 ⟨rfl, hb1⟩
    have HB1 := Lib.hid hb1
    clear hb1
    go_wp2
    go_ret
    exact ⟨rfl, HB1.out⟩
  · have hsm : n ≤ 300 := by omega
    clear hbig
    go_enter Try.func5, Try.ntmps5
    go_wp2_with fail
    refine HAL.out.mono ?_
    rintro e w1 ⟨rfl, hb1⟩
    have HB1 := Lib.hid hb1
    have HNEW := Lib.hid (newQ_any w1 p HIN.out)
    clear hb1 HAL
    go_wp2_with fail
    refine HNEW.out.mono ?_
    rintro e w2 ⟨h, c, rfl, X0, hb2⟩
    obtain ⟨cap, hcap⟩ : ∃ cap, cap = capM p := ⟨_, rfl⟩
    rw [← hcap] at X0
    have HX0 := Lib.hid X0
    have HB2 := Lib.hid (HB1.out.trans (hb2.mono HB1.out.size))
    obtain ⟨base, hbase⟩ : ∃ base, base = w1.heap.size := ⟨_, rfl⟩
    rw [← hbase] at HX0
    have HBASE := Lib.hid (show base ≤ w2.heap.size ∧ w.heap.size ≤ base from ⟨by rw [hbase]; exact hb2.size, by rw [hbase]; exact HB1.out.size⟩)
    have hc1 := X0.lo
    have hc4 := X0.hi
    have HRM := room_any X0
    rw [show (cap : Int) - (([] : List Int).length : Nat) = (cap : Int) from by simp] at HRM
    have HRM := Lib.hid HRM
    have HPC : Hid (1 ≤ p → p ≤ 4 → (cap : Int) = p) := Lib.hid (fun h1 h4 => by rw [hcap]; exact capM_in p h1 h4)
    clear X0 hb2 HNEW hbase HB1 hcap
    go_wp2_with fail
    refine HRM.out.mono ?_
    rintro e w3 ⟨rfl, m, hm⟩
    have HX3 := HX0.out.drewN m
    have HB3 := HB2.out.trans (Chg.drawn none w.heap.size w2 m).bel
    have hs3 : base ≤ w3.heap.size := by rw [hm]; exact HBASE.out.1
    rw [← hm] at HX3 HB3
    have HX3 := Lib.hid HX3
    have HB3 := Lib.hid HB3
    have HS3 := Lib.hid hs3
    clear hs3 hm HRM HX0 HB2
    have hd1 : decide ((cap : Int) < 1) = false := decide_eq_false (by omega)
    have hd4 : decide (4 < (cap : Int)) = false := decide_eq_false (by omega)
    by_cases hp1 : 1 ≤ p
    · by_cases hp4 : p ≤ 4
      · have hpc := HPC.out hp1 hp4
        clear HPC
        subst hpc
        go_wp2_with fail
        go_loopw [7] (fun i wr => ∃ (j : Nat) (W : List Int), j ≤ n ∧ i = .int .i64 (j : Nat) ∧ Hid (QAt wr base h c cap W) ∧ Hid (base ≤ wr.heap.size) ∧ Hid (Below w.heap.size w wr)) (fun i _ => n - (intOf i).toNat)
        case atStart => exact ⟨0, [], Nat.zero_le _, rfl, HX3, HS3, HB3⟩
        case round =>
          clear HX3 HS3 HB3
          obtain ⟨wo, rfl⟩ : ∃ wo : World, wo = wr := ⟨_, rfl⟩
          obtain ⟨j, W, hj, rfl, HQ, HBS, HB⟩ := hrel
          by_cases hlt : j < n
          · have hjl : j < zs.length := by rw [← HN.out]; exact hlt
            obtain ⟨gz, off, rfl, hgz, k0, hin⟩ := HV.out.num j hjl
            have hc := (HB.out.cell (p := ⟨gz, off + j, none⟩) hgz).trans k0
            obtain ⟨x, hx⟩ : ∃ x, x = zs[j] := ⟨_, rfl⟩
            rw [← hx] at hc hin
            clear k0 hx hjl
            have HL := len_any HQ.out
            obtain ⟨wl, hwl⟩ : ∃ wl, wl = W.length := ⟨_, rfl⟩
            rw [← hwl] at HL
            have HL := Lib.hid HL
            have HWL := Lib.hid hwl
            have hwl4 : wl ≤ 4 := by have := HQ.out.fit; omega
            clear hwl
            go_wp2_with fail
            refine HL.out.mono ?_
            rintro e w7 ⟨rfl, rfl⟩
            clear HL
            have hpar : (bits BinOp.and IntKind.i64 x 1 == 0) = true ∨ (bits BinOp.and IntKind.i64 x 1 == 0) = false := by cases (bits BinOp.and IntKind.i64 x 1 == 0) <;> simp
            rcases hpar with hpar | hpar
            · have HP := put_any HQ.out (j : Int)
              unfold PutQ putM at HP
              by_cases hw : W.length < cap
              · rw [if_pos hw] at HP
                have HP := Lib.hid HP
                have hwc : wl < cap := by rw [HWL.out]; exact hw
                clear hw
                go_wp2_with fail
                refine HP.out.mono ?_
                rintro e w3 ⟨rfl, X3, C3⟩
                try dsimp only at X3
                have HQ1 := Lib.hid X3
                have HBS1 : Hid (base ≤ w3.heap.size) := Lib.hid (Nat.le_trans HBS.out C3.size)
                have HB1 := Lib.hid (HB.out.trans (C3.bel.mono HBASE.out.2))
                clear X3 C3 HQ HBS HB hc
                clear HP
                obtain ⟨wl2, r2, ew, er⟩ : ∃ wl2 r2 : Nat, (W ++ [(j : Int)]).length = wl2 ∧ (cap : Int) - (wl2 : Int) = (r2 : Int) := ⟨(W ++ [(j : Int)]).length, cap - (W ++ [(j : Int)]).length, rfl, by have := HQ1.out.fit; omega⟩
                have HL2 := len_any HQ1.out
                have HR2 := room_any HQ1.out
                rw [ew] at HL2 HR2
                rw [er] at HR2
                have HL2 := Lib.hid HL2
                have HR2 := Lib.hid HR2
                have hsum : (wl2 : Int) + (r2 : Int) = (cap : Int) := by omega
                have hb2 : wl2 ≤ 4 := by omega
                have hb3 : r2 ≤ 4 := by omega
                clear er ew
                go_wp2_with fail
                refine HL2.out.mono ?_
                rintro e w8 ⟨rfl, rfl⟩
                go_wp2_with fail
                refine HR2.out.mono ?_
                rintro e w9 ⟨rfl, m9, hm9⟩
                have hx9 := HQ1.out.drewN m9
                have hb9 := HB1.out.trans (Chg.drawn none w.heap.size _ m9).bel
                have hs9 : base ≤ w9.heap.size := by rw [hm9]; exact HBS1.out
                rw [← hm9] at hx9 hb9
                have HX9 := Lib.hid hx9
                have HB9 := Lib.hid hb9
                have HS9 := Lib.hid hs9
                clear hm9 hx9 hb9 hs9 HL2 HR2
                go_wp2_with fail
                go_roundw
                case rel => exact ⟨j + 1, W ++ [(j : Int)], by omega, by go_num, HX9, HS9, HB9⟩
                case measure => simp [intOf]; omega
              · rw [if_neg hw] at HP
                have HP := Lib.hid HP
                have hwc : ¬ wl < cap := by rw [HWL.out]; exact hw
                clear hw
                go_wp2_with fail
                refine HP.out.mono ?_
                rintro e w3 ⟨rfl, X3, C3⟩
                try dsimp only at X3
                have HQ1 := Lib.hid X3
                have HBS1 : Hid (base ≤ w3.heap.size) := Lib.hid (Nat.le_trans HBS.out C3.size)
                have HB1 := Lib.hid (HB.out.trans (C3.bel.mono HBASE.out.2))
                clear X3 C3 HQ HBS HB hc
                clear HP
                obtain ⟨wl2, r2, ew, er⟩ : ∃ wl2 r2 : Nat, (W).length = wl2 ∧ (cap : Int) - (wl2 : Int) = (r2 : Int) := ⟨(W).length, cap - (W).length, rfl, by have := HQ1.out.fit; omega⟩
                have HL2 := len_any HQ1.out
                have HR2 := room_any HQ1.out
                rw [ew] at HL2 HR2
                rw [er] at HR2
                have HL2 := Lib.hid HL2
                have HR2 := Lib.hid HR2
                have hsum : (wl2 : Int) + (r2 : Int) = (cap : Int) := by omega
                have hb2 : wl2 ≤ 4 := by omega
                have hb3 : r2 ≤ 4 := by omega
                clear er ew
                go_wp2_with fail
                refine HL2.out.mono ?_
                rintro e w8 ⟨rfl, rfl⟩
                go_wp2_with fail
                refine HR2.out.mono ?_
                rintro e w9 ⟨rfl, m9, hm9⟩
                have hx9 := HQ1.out.drewN m9
                have hb9 := HB1.out.trans (Chg.drawn none w.heap.size _ m9).bel
                have hs9 : base ≤ w9.heap.size := by rw [hm9]; exact HBS1.out
                rw [← hm9] at hx9 hb9
                have HX9 := Lib.hid hx9
                have HB9 := Lib.hid hb9
                have HS9 := Lib.hid hs9
                clear hm9 hx9 hb9 hs9 HL2 HR2
                go_wp2_with fail
                go_roundw
                case rel => exact ⟨j + 1, W, by omega, by go_num, HX9, HS9, HB9⟩
                case measure => simp [intOf]; omega
            · have HG := get_any HQ.out
              unfold GetQ at HG
              cases W with
              | nil =>
                have HG := Lib.hid HG
                have hw0 : wl = 0 := HWL.out
                subst hw0
                go_wp2_with fail
                refine HG.out.mono ?_
                rw [show getM ([] : List Int) = ([], 0, false) from rfl]
                rintro e w3 ⟨rfl, X3, C3⟩
                try dsimp only at X3
                have HQ1 := Lib.hid X3
                have HBS1 : Hid (base ≤ w3.heap.size) := Lib.hid (Nat.le_trans HBS.out C3.size)
                have HB1 := Lib.hid (HB.out.trans (C3.bel.mono HBASE.out.2))
                clear X3 C3 HQ HBS HB hc
                clear HG
                obtain ⟨wl2, r2, ew, er⟩ : ∃ wl2 r2 : Nat, (([] : List Int)).length = wl2 ∧ (cap : Int) - (wl2 : Int) = (r2 : Int) := ⟨(([] : List Int)).length, cap - (([] : List Int)).length, rfl, by have := HQ1.out.fit; omega⟩
                have HL2 := len_any HQ1.out
                have HR2 := room_any HQ1.out
                rw [ew] at HL2 HR2
                rw [er] at HR2
                have HL2 := Lib.hid HL2
                have HR2 := Lib.hid HR2
                have hsum : (wl2 : Int) + (r2 : Int) = (cap : Int) := by omega
                have hb2 : wl2 ≤ 4 := by omega
                have hb3 : r2 ≤ 4 := by omega
                clear er ew
                go_wp2_with fail
                refine HL2.out.mono ?_
                rintro e w8 ⟨rfl, rfl⟩
                go_wp2_with fail
                refine HR2.out.mono ?_
                rintro e w9 ⟨rfl, m9, hm9⟩
                have hx9 := HQ1.out.drewN m9
                have hb9 := HB1.out.trans (Chg.drawn none w.heap.size _ m9).bel
                have hs9 : base ≤ w9.heap.size := by rw [hm9]; exact HBS1.out
                rw [← hm9] at hx9 hb9
                have HX9 := Lib.hid hx9
                have HB9 := Lib.hid hb9
                have HS9 := Lib.hid hs9
                clear hm9 hx9 hb9 hs9 HL2 HR2
                go_wp2_with fail
                go_roundw
                case rel => exact ⟨j + 1, ([] : List Int), by omega, by go_num, HX9, HS9, HB9⟩
                case measure => simp [intOf]; omega
              | cons y W =>
                have HG := Lib.hid HG
                have hw0 : 0 < wl := by rw [HWL.out]; simp
                go_wp2_with fail
                refine HG.out.mono ?_
                rw [show getM (y :: W) = (W, y, true) from rfl]
                rintro e w3 ⟨rfl, X3, C3⟩
                try dsimp only at X3
                have HQ1 := Lib.hid X3
                have HBS1 : Hid (base ≤ w3.heap.size) := Lib.hid (Nat.le_trans HBS.out C3.size)
                have HB1 := Lib.hid (HB.out.trans (C3.bel.mono HBASE.out.2))
                clear X3 C3 HQ HBS HB hc
                clear HG
                obtain ⟨wl2, r2, ew, er⟩ : ∃ wl2 r2 : Nat, (W).length = wl2 ∧ (cap : Int) - (wl2 : Int) = (r2 : Int) := ⟨(W).length, cap - (W).length, rfl, by have := HQ1.out.fit; omega⟩
                have HL2 := len_any HQ1.out
                have HR2 := room_any HQ1.out
                rw [ew] at HL2 HR2
                rw [er] at HR2
                have HL2 := Lib.hid HL2
                have HR2 := Lib.hid HR2
                have hsum : (wl2 : Int) + (r2 : Int) = (cap : Int) := by omega
                have hb2 : wl2 ≤ 4 := by omega
                have hb3 : r2 ≤ 4 := by omega
                clear er ew
                go_wp2_with fail
                refine HL2.out.mono ?_
                rintro e w8 ⟨rfl, rfl⟩
                go_wp2_with fail
                refine HR2.out.mono ?_
                rintro e w9 ⟨rfl, m9, hm9⟩
                have hx9 := HQ1.out.drewN m9
                have hb9 := HB1.out.trans (Chg.drawn none w.heap.size _ m9).bel
                have hs9 : base ≤ w9.heap.size := by rw [hm9]; exact HBS1.out
                rw [← hm9] at hx9 hb9
                have HX9 := Lib.hid hx9
                have HB9 := Lib.hid hb9
                have HS9 := Lib.hid hs9
                clear hm9 hx9 hb9 hs9 HL2 HR2
                go_wp2_with fail
                go_roundw
                case rel => exact ⟨j + 1, W, by omega, by go_num, HX9, HS9, HB9⟩
                case measure => simp [intOf]; omega
          · obtain rfl : j = n := by omega
            go_wp2
            go_ret
            exact ⟨rfl, HB.out⟩
      · clear HPC
        go_wp2_with fail
        go_loopw [7] (fun i wr => ∃ (j : Nat) (W : List Int), j ≤ n ∧ i = .int .i64 (j : Nat) ∧ Hid (QAt wr base h c cap W) ∧ Hid (base ≤ wr.heap.size) ∧ Hid (Below w.heap.size w wr)) (fun i _ => n - (intOf i).toNat)
        case atStart => exact ⟨0, [], Nat.zero_le _, rfl, HX3, HS3, HB3⟩
        case round =>
          clear HX3 HS3 HB3
          obtain ⟨wo, rfl⟩ : ∃ wo : World, wo = wr := ⟨_, rfl⟩
          obtain ⟨j, W, hj, rfl, HQ, HBS, HB⟩ := hrel
          by_cases hlt : j < n
          · have hjl : j < zs.length := by rw [← HN.out]; exact hlt
            obtain ⟨gz, off, rfl, hgz, k0, hin⟩ := HV.out.num j hjl
            have hc := (HB.out.cell (p := ⟨gz, off + j, none⟩) hgz).trans k0
            obtain ⟨x, hx⟩ : ∃ x, x = zs[j] := ⟨_, rfl⟩
            rw [← hx] at hc hin
            clear k0 hx hjl
            have HL := len_any HQ.out
            obtain ⟨wl, hwl⟩ : ∃ wl, wl = W.length := ⟨_, rfl⟩
            rw [← hwl] at HL
            have HL := Lib.hid HL
            have HWL := Lib.hid hwl
            have hwl4 : wl ≤ 4 := by have := HQ.out.fit; omega
            clear hwl
            go_wp2_with fail
            refine HL.out.mono ?_
            rintro e w7 ⟨rfl, rfl⟩
            clear HL
            have hpar : (bits BinOp.and IntKind.i64 x 1 == 0) = true ∨ (bits BinOp.and IntKind.i64 x 1 == 0) = false := by cases (bits BinOp.and IntKind.i64 x 1 == 0) <;> simp
            rcases hpar with hpar | hpar
            · have HP := put_any HQ.out (j : Int)
              unfold PutQ putM at HP
              by_cases hw : W.length < cap
              · rw [if_pos hw] at HP
                have HP := Lib.hid HP
                have hwc : wl < cap := by rw [HWL.out]; exact hw
                clear hw
                go_wp2_with fail
                refine HP.out.mono ?_
                rintro e w3 ⟨rfl, X3, C3⟩
                try dsimp only at X3
                have HQ1 := Lib.hid X3
                have HBS1 : Hid (base ≤ w3.heap.size) := Lib.hid (Nat.le_trans HBS.out C3.size)
                have HB1 := Lib.hid (HB.out.trans (C3.bel.mono HBASE.out.2))
                clear X3 C3 HQ HBS HB hc
                clear HP
                obtain ⟨wl2, r2, ew, er⟩ : ∃ wl2 r2 : Nat, (W ++ [(j : Int)]).length = wl2 ∧ (cap : Int) - (wl2 : Int) = (r2 : Int) := ⟨(W ++ [(j : Int)]).length, cap - (W ++ [(j : Int)]).length, rfl, by have := HQ1.out.fit; omega⟩
                have HL2 := len_any HQ1.out
                have HR2 := room_any HQ1.out
                rw [ew] at HL2 HR2
                rw [er] at HR2
                have HL2 := Lib.hid HL2
                have HR2 := Lib.hid HR2
                have hsum : (wl2 : Int) + (r2 : Int) = (cap : Int) := by omega
                have hb2 : wl2 ≤ 4 := by omega
                have hb3 : r2 ≤ 4 := by omega
                clear er ew
                go_wp2_with fail
                refine HL2.out.mono ?_
                rintro e w8 ⟨rfl, rfl⟩
                go_wp2_with fail
                refine HR2.out.mono ?_
                rintro e w9 ⟨rfl, m9, hm9⟩
                have hx9 := HQ1.out.drewN m9
                have hb9 := HB1.out.trans (Chg.drawn none w.heap.size _ m9).bel
                have hs9 : base ≤ w9.heap.size := by rw [hm9]; exact HBS1.out
                rw [← hm9] at hx9 hb9
                have HX9 := Lib.hid hx9
                have HB9 := Lib.hid hb9
                have HS9 := Lib.hid hs9
                clear hm9 hx9 hb9 hs9 HL2 HR2
                go_wp2_with fail
                go_roundw
                case rel => exact ⟨j + 1, W ++ [(j : Int)], by omega, by go_num, HX9, HS9, HB9⟩
                case measure => simp [intOf]; omega
              · rw [if_neg hw] at HP
                have HP := Lib.hid HP
                have hwc : ¬ wl < cap := by rw [HWL.out]; exact hw
                clear hw
                go_wp2_with fail
                refine HP.out.mono ?_
                rintro e w3 ⟨rfl, X3, C3⟩
                try dsimp only at X3
                have HQ1 := Lib.hid X3
                have HBS1 : Hid (base ≤ w3.heap.size) := Lib.hid (Nat.le_trans HBS.out C3.size)
                have HB1 := Lib.hid (HB.out.trans (C3.bel.mono HBASE.out.2))
                clear X3 C3 HQ HBS HB hc
                clear HP
                obtain ⟨wl2, r2, ew, er⟩ : ∃ wl2 r2 : Nat, (W).length = wl2 ∧ (cap : Int) - (wl2 : Int) = (r2 : Int) := ⟨(W).length, cap - (W).length, rfl, by have := HQ1.out.fit; omega⟩
                have HL2 := len_any HQ1.out
                have HR2 := room_any HQ1.out
                rw [ew] at HL2 HR2
                rw [er] at HR2
                have HL2 := Lib.hid HL2
                have HR2 := Lib.hid HR2
                have hsum : (wl2 : Int) + (r2 : Int) = (cap : Int) := by omega
                have hb2 : wl2 ≤ 4 := by omega
                have hb3 : r2 ≤ 4 := by omega
                clear er ew
                go_wp2_with fail
                refine HL2.out.mono ?_
                rintro e w8 ⟨rfl, rfl⟩
                go_wp2_with fail
                refine HR2.out.mono ?_
                rintro e w9 ⟨rfl, m9, hm9⟩
                have hx9 := HQ1.out.drewN m9
                have hb9 := HB1.out.trans (Chg.drawn none w.heap.size _ m9).bel
                have hs9 : base ≤ w9.heap.size := by rw [hm9]; exact HBS1.out
                rw [← hm9] at hx9 hb9
                have HX9 := Lib.hid hx9
                have HB9 := Lib.hid hb9
                have HS9 := Lib.hid hs9
                clear hm9 hx9 hb9 hs9 HL2 HR2
                go_wp2_with fail
                go_roundw
                case rel => exact ⟨j + 1, W, by omega, by go_num, HX9, HS9, HB9⟩
                case measure => simp [intOf]; omega
            · have HG := get_any HQ.out
              unfold GetQ at HG
              cases W with
              | nil =>
                have HG := Lib.hid HG
                have hw0 : wl = 0 := HWL.out
                subst hw0
                go_wp2_with fail
                refine HG.out.mono ?_
                rw [show getM ([] : List Int) = ([], 0, false) from rfl]
                rintro e w3 ⟨rfl, X3, C3⟩
                try dsimp only at X3
                have HQ1 := Lib.hid X3
                have HBS1 : Hid (base ≤ w3.heap.size) := Lib.hid (Nat.le_trans HBS.out C3.size)
                have HB1 := Lib.hid (HB.out.trans (C3.bel.mono HBASE.out.2))
                clear X3 C3 HQ HBS HB hc
                clear HG
                obtain ⟨wl2, r2, ew, er⟩ : ∃ wl2 r2 : Nat, (([] : List Int)).length = wl2 ∧ (cap : Int) - (wl2 : Int) = (r2 : Int) := ⟨(([] : List Int)).length, cap - (([] : List Int)).length, rfl, by have := HQ1.out.fit; omega⟩
                have HL2 := len_any HQ1.out
                have HR2 := room_any HQ1.out
                rw [ew] at HL2 HR2
                rw [er] at HR2
                have HL2 := Lib.hid HL2
                have HR2 := Lib.hid HR2
                have hsum : (wl2 : Int) + (r2 : Int) = (cap : Int) := by omega
                have hb2 : wl2 ≤ 4 := by omega
                have hb3 : r2 ≤ 4 := by omega
                clear er ew
                go_wp2_with fail
                refine HL2.out.mono ?_
                rintro e w8 ⟨rfl, rfl⟩
                go_wp2_with fail
                refine HR2.out.mono ?_
                rintro e w9 ⟨rfl, m9, hm9⟩
                have hx9 := HQ1.out.drewN m9
                have hb9 := HB1.out.trans (Chg.drawn none w.heap.size _ m9).bel
                have hs9 : base ≤ w9.heap.size := by rw [hm9]; exact HBS1.out
                rw [← hm9] at hx9 hb9
                have HX9 := Lib.hid hx9
                have HB9 := Lib.hid hb9
                have HS9 := Lib.hid hs9
                clear hm9 hx9 hb9 hs9 HL2 HR2
                go_wp2_with fail
                go_roundw
                case rel => exact ⟨j + 1, ([] : List Int), by omega, by go_num, HX9, HS9, HB9⟩
                case measure => simp [intOf]; omega
              | cons y W =>
                have HG := Lib.hid HG
                have hw0 : 0 < wl := by rw [HWL.out]; simp
                go_wp2_with fail
                refine HG.out.mono ?_
                rw [show getM (y :: W) = (W, y, true) from rfl]
                rintro e w3 ⟨rfl, X3, C3⟩
                try dsimp only at X3
                have HQ1 := Lib.hid X3
                have HBS1 : Hid (base ≤ w3.heap.size) := Lib.hid (Nat.le_trans HBS.out C3.size)
                have HB1 := Lib.hid (HB.out.trans (C3.bel.mono HBASE.out.2))
                clear X3 C3 HQ HBS HB hc
                clear HG
                obtain ⟨wl2, r2, ew, er⟩ : ∃ wl2 r2 : Nat, (W).length = wl2 ∧ (cap : Int) - (wl2 : Int) = (r2 : Int) := ⟨(W).length, cap - (W).length, rfl, by have := HQ1.out.fit; omega⟩
                have HL2 := len_any HQ1.out
                have HR2 := room_any HQ1.out
                rw [ew] at HL2 HR2
                rw [er] at HR2
                have HL2 := Lib.hid HL2
                have HR2 := Lib.hid HR2
                have hsum : (wl2 : Int) + (r2 : Int) = (cap : Int) := by omega
                have hb2 : wl2 ≤ 4 := by omega
                have hb3 : r2 ≤ 4 := by omega
                clear er ew
                go_wp2_with fail
                refine HL2.out.mono ?_
                rintro e w8 ⟨rfl, rfl⟩
                go_wp2_with fail
                refine HR2.out.mono ?_
                rintro e w9 ⟨rfl, m9, hm9⟩
                have hx9 := HQ1.out.drewN m9
                have hb9 := HB1.out.trans (Chg.drawn none w.heap.size _ m9).bel
                have hs9 : base ≤ w9.heap.size := by rw [hm9]; exact HBS1.out
                rw [← hm9] at hx9 hb9
                have HX9 := Lib.hid hx9
                have HB9 := Lib.hid hb9
                have HS9 := Lib.hid hs9
                clear hm9 hx9 hb9 hs9 HL2 HR2
                go_wp2_with fail
                go_roundw
                case rel => exact ⟨j + 1, W, by omega, by go_num, HX9, HS9, HB9⟩
                case measure => simp [intOf]; omega
          · obtain rfl : j = n := by omega
            go_wp2
            go_ret
            exact ⟨rfl, HB.out⟩
    · clear HPC
      go_wp2_with fail
      go_loopw [7] (fun i wr => ∃ (j : Nat) (W : List Int), j ≤ n ∧ i = .int .i64 (j : Nat) ∧ Hid (QAt wr base h c cap W) ∧ Hid (base ≤ wr.heap.size) ∧ Hid (Below w.heap.size w wr)) (fun i _ => n - (intOf i).toNat)
      case atStart => exact ⟨0, [], Nat.zero_le _, rfl, HX3, HS3, HB3⟩
      case round =>
        clear HX3 HS3 HB3
        obtain ⟨wo, rfl⟩ : ∃ wo : World, wo = wr := ⟨_, rfl⟩
        obtain ⟨j, W, hj, rfl, HQ, HBS, HB⟩ := hrel
        by_cases hlt : j < n
        · have hjl : j < zs.length := by rw [← HN.out]; exact hlt
          obtain ⟨gz, off, rfl, hgz, k0, hin⟩ := HV.out.num j hjl
          have hc := (HB.out.cell (p := ⟨gz, off + j, none⟩) hgz).trans k0
          obtain ⟨x, hx⟩ : ∃ x, x = zs[j] := ⟨_, rfl⟩
          rw [← hx] at hc hin
          clear k0 hx hjl
          have HL := len_any HQ.out
          obtain ⟨wl, hwl⟩ : ∃ wl, wl = W.length := ⟨_, rfl⟩
          rw [← hwl] at HL
          have HL := Lib.hid HL
          have HWL := Lib.hid hwl
          have hwl4 : wl ≤ 4 := by have := HQ.out.fit; omega
          clear hwl
          go_wp2_with fail
          refine HL.out.mono ?_
          rintro e w7 ⟨rfl, rfl⟩
          clear HL
          have hpar : (bits BinOp.and IntKind.i64 x 1 == 0) = true ∨ (bits BinOp.and IntKind.i64 x 1 == 0) = false := by cases (bits BinOp.and IntKind.i64 x 1 == 0) <;> simp
          rcases hpar with hpar | hpar
          · have HP := put_any HQ.out (j : Int)
            unfold PutQ putM at HP
            by_cases hw : W.length < cap
            · rw [if_pos hw] at HP
              have HP := Lib.hid HP
              have hwc : wl < cap := by rw [HWL.out]; exact hw
              clear hw
              go_wp2_with fail
              refine HP.out.mono ?_
              rintro e w3 ⟨rfl, X3, C3⟩
              try dsimp only at X3
              have HQ1 := Lib.hid X3
              have HBS1 : Hid (base ≤ w3.heap.size) := Lib.hid (Nat.le_trans HBS.out C3.size)
              have HB1 := Lib.hid (HB.out.trans (C3.bel.mono HBASE.out.2))
              clear X3 C3 HQ HBS HB hc
              clear HP
              obtain ⟨wl2, r2, ew, er⟩ : ∃ wl2 r2 : Nat, (W ++ [(j : Int)]).length = wl2 ∧ (cap : Int) - (wl2 : Int) = (r2 : Int) := ⟨(W ++ [(j : Int)]).length, cap - (W ++ [(j : Int)]).length, rfl, by have := HQ1.out.fit; omega⟩
              have HL2 := len_any HQ1.out
              have HR2 := room_any HQ1.out
              rw [ew] at HL2 HR2
              rw [er] at HR2
              have HL2 := Lib.hid HL2
              have HR2 := Lib.hid HR2
              have hsum : (wl2 : Int) + (r2 : Int) = (cap : Int) := by omega
              have hb2 : wl2 ≤ 4 := by omega
              have hb3 : r2 ≤ 4 := by omega
              clear er ew
              go_wp2_with fail
              refine HL2.out.mono ?_
              rintro e w8 ⟨rfl, rfl⟩
              go_wp2_with fail
              refine HR2.out.mono ?_
              rintro e w9 ⟨rfl, m9, hm9⟩
              have hx9 := HQ1.out.drewN m9
              have hb9 := HB1.out.trans (Chg.drawn none w.heap.size _ m9).bel
              have hs9 : base ≤ w9.heap.size := by rw [hm9]; exact HBS1.out
              rw [← hm9] at hx9 hb9
              have HX9 := Lib.hid hx9
              have HB9 := Lib.hid hb9
              have HS9 := Lib.hid hs9
              clear hm9 hx9 hb9 hs9 HL2 HR2
              go_wp2_with fail
              go_roundw
              case rel => exact ⟨j + 1, W ++ [(j : Int)], by omega, by go_num, HX9, HS9, HB9⟩
              case measure => simp [intOf]; omega
            · rw [if_neg hw] at HP
              have HP := Lib.hid HP
              have hwc : ¬ wl < cap := by rw [HWL.out]; exact hw
              clear hw
              go_wp2_with fail
              refine HP.out.mono ?_
              rintro e w3 ⟨rfl, X3, C3⟩
              try dsimp only at X3
              have HQ1 := Lib.hid X3
              have HBS1 : Hid (base ≤ w3.heap.size) := Lib.hid (Nat.le_trans HBS.out C3.size)
              have HB1 := Lib.hid (HB.out.trans (C3.bel.mono HBASE.out.2))
              clear X3 C3 HQ HBS HB hc
              clear HP
              obtain ⟨wl2, r2, ew, er⟩ : ∃ wl2 r2 : Nat, (W).length = wl2 ∧ (cap : Int) - (wl2 : Int) = (r2 : Int) := ⟨(W).length, cap - (W).length, rfl, by have := HQ1.out.fit; omega⟩
              have HL2 := len_any HQ1.out
              have HR2 := room_any HQ1.out
              rw [ew] at HL2 HR2
              rw [er] at HR2
              have HL2 := Lib.hid HL2
              have HR2 := Lib.hid HR2
              have hsum : (wl2 : Int) + (r2 : Int) = (cap : Int) := by omega
              have hb2 : wl2 ≤ 4 := by omega
              have hb3 : r2 ≤ 4 := by omega
              clear er ew
              go_wp2_with fail
              refine HL2.out.mono ?_
              rintro e w8 ⟨rfl, rfl⟩
              go_wp2_with fail
              refine HR2.out.mono ?_
              rintro e w9 ⟨rfl, m9, hm9⟩
              have hx9 := HQ1.out.drewN m9
              have hb9 := HB1.out.trans (Chg.drawn none w.heap.size _ m9).bel
              have hs9 : base ≤ w9.heap.size := by rw [hm9]; exact HBS1.out
              rw [← hm9] at hx9 hb9
              have HX9 := Lib.hid hx9
              have HB9 := Lib.hid hb9
              have HS9 := Lib.hid hs9
              clear hm9 hx9 hb9 hs9 HL2 HR2
              go_wp2_with fail
              go_roundw
              case rel => exact ⟨j + 1, W, by omega, by go_num, HX9, HS9, HB9⟩
              case measure => simp [intOf]; omega
          · have HG := get_any HQ.out
            unfold GetQ at HG
            cases W with
            | nil =>
              have HG := Lib.hid HG
              have hw0 : wl = 0 := HWL.out
              subst hw0
              go_wp2_with fail
              refine HG.out.mono ?_
              rw [show getM ([] : List Int) = ([], 0, false) from rfl]
              rintro e w3 ⟨rfl, X3, C3⟩
              try dsimp only at X3
              have HQ1 := Lib.hid X3
              have HBS1 : Hid (base ≤ w3.heap.size) := Lib.hid (Nat.le_trans HBS.out C3.size)
              have HB1 := Lib.hid (HB.out.trans (C3.bel.mono HBASE.out.2))
              clear X3 C3 HQ HBS HB hc
              clear HG
              obtain ⟨wl2, r2, ew, er⟩ : ∃ wl2 r2 : Nat, (([] : List Int)).length = wl2 ∧ (cap : Int) - (wl2 : Int) = (r2 : Int) := ⟨(([] : List Int)).length, cap - (([] : List Int)).length, rfl, by have := HQ1.out.fit; omega⟩
              have HL2 := len_any HQ1.out
              have HR2 := room_any HQ1.out
              rw [ew] at HL2 HR2
              rw [er] at HR2
              have HL2 := Lib.hid HL2
              have HR2 := Lib.hid HR2
              have hsum : (wl2 : Int) + (r2 : Int) = (cap : Int) := by omega
              have hb2 : wl2 ≤ 4 := by omega
              have hb3 : r2 ≤ 4 := by omega
              clear er ew
              go_wp2_with fail
              refine HL2.out.mono ?_
              rintro e w8 ⟨rfl, rfl⟩
              go_wp2_with fail
              refine HR2.out.mono ?_
              rintro e w9 ⟨rfl, m9, hm9⟩
              have hx9 := HQ1.out.drewN m9
              have hb9 := HB1.out.trans (Chg.drawn none w.heap.size _ m9).bel
              have hs9 : base ≤ w9.heap.size := by rw [hm9]; exact HBS1.out
              rw [← hm9] at hx9 hb9
              have HX9 := Lib.hid hx9
              have HB9 := Lib.hid hb9
              have HS9 := Lib.hid hs9
              clear hm9 hx9 hb9 hs9 HL2 HR2
              go_wp2_with fail
              go_roundw
              case rel => exact ⟨j + 1, ([] : List Int), by omega, by go_num, HX9, HS9, HB9⟩
              case measure => simp [intOf]; omega
            | cons y W =>
              have HG := Lib.hid HG
              have hw0 : 0 < wl := by rw [HWL.out]; simp
              go_wp2_with fail
              refine HG.out.mono ?_
              rw [show getM (y :: W) = (W, y, true) from rfl]
              rintro e w3 ⟨rfl, X3, C3⟩
              try dsimp only at X3
              have HQ1 := Lib.hid X3
              have HBS1 : Hid (base ≤ w3.heap.size) := Lib.hid (Nat.le_trans HBS.out C3.size)
              have HB1 := Lib.hid (HB.out.trans (C3.bel.mono HBASE.out.2))
              clear X3 C3 HQ HBS HB hc
              clear HG
              obtain ⟨wl2, r2, ew, er⟩ : ∃ wl2 r2 : Nat, (W).length = wl2 ∧ (cap : Int) - (wl2 : Int) = (r2 : Int) := ⟨(W).length, cap - (W).length, rfl, by have := HQ1.out.fit; omega⟩
              have HL2 := len_any HQ1.out
              have HR2 := room_any HQ1.out
              rw [ew] at HL2 HR2
              rw [er] at HR2
              have HL2 := Lib.hid HL2
              have HR2 := Lib.hid HR2
              have hsum : (wl2 : Int) + (r2 : Int) = (cap : Int) := by omega
              have hb2 : wl2 ≤ 4 := by omega
              have hb3 : r2 ≤ 4 := by omega
              clear er ew
              go_wp2_with fail
              refine HL2.out.mono ?_
              rintro e w8 ⟨rfl, rfl⟩
              go_wp2_with fail
              refine HR2.out.mono ?_
              rintro e w9 ⟨rfl, m9, hm9⟩
              have hx9 := HQ1.out.drewN m9
              have hb9 := HB1.out.trans (Chg.drawn none w.heap.size _ m9).bel
              have hs9 : base ≤ w9.heap.size := by rw [hm9]; exact HBS1.out
              rw [← hm9] at hx9 hb9
              have HX9 := Lib.hid hx9
              have HB9 := Lib.hid hb9
              have HS9 := Lib.hid hs9
              clear hm9 hx9 hb9 hs9 HL2 HR2
              go_wp2_with fail
              go_roundw
              case rel => exact ⟨j + 1, W, by omega, by go_num, HX9, HS9, HB9⟩
              case measure => simp [intOf]; omega
        · obtain rfl : j = n := by omega
          go_wp2
          go_ret
          exact ⟨rfl, HB.out⟩

end Go.Proofs.Ytadmacplpmahaaa
