/- What is proved: ScopeLocals' walk: of a well named program a function's locals are its parameters and what its statements declare. -/
import Derived.Test.YtbckeljbpknbdaaGreatDoorYe7
import Derived.Test.YtbckeljbpknbdaaGreatDoorYf1
import Derived.Test.YtbckeljbpknbdaaGreatDoorRows
import Derived.Test.YtbckeljbpknbdaaGreatDoorTie
import Derived.Test.YtbckeljbpknbdaaGreatDoorCards
set_option linter.unusedVariables false
set_option linter.unusedSimpArgs false
namespace Go.Proofs.YtbckeljbpknbdaaGreatDoor
open Go.RowKit

/-- the locals of each function and thread, where nothing is wrong -/
def bodiesL (ds : List Dc) : List (List Pr) := (ds.filter fun d => bodyB d.kind).map fun d => d.pairs ++ varsSs d.body
theorem bodiesL_app (a b : List Dc) : bodiesL (a ++ b) = bodiesL a ++ bodiesL b := by unfold bodiesL; rw [List.filter_append, List.map_append]
theorem bodiesL_cons (d : Dc) (ds : List Dc) : bodiesL (d :: ds) = (if bodyB d.kind = true then [d.pairs ++ varsSs d.body] else []) ++ bodiesL ds := by
 unfold bodiesL
 by_cases h : bodyB d.kind = true
 · simp [List.filter_cons, h]
 · simp [List.filter_cons, h]
theorem locals_all (D : List Dc) : ∀ (r pre : List Dc), (∀ d ∈ r, d.kind = 8 → d.pairs = []) → (dcDs D pre r).1 = [] → (dcDs D pre r).2 = bodiesL r ∧ ∀ d ∈ r, bodyB d.kind = true → ∀ q ∈ d.pairs ++ varsSs d.body, firstIx D q.name = none
 | [], pre, _, _ => by rw [dcDs]; exact ⟨rfl, fun d hd => by cases hd⟩
 | d :: r, pre, h8, h => by
   rw [dcDs] at h ⊢
   obtain ⟨h1, h2⟩ := nil_app h
   obtain ⟨i1, i2⟩ := locals_all D r (pre ++ [d]) (fun x hx => h8 x (by simp [hx])) h2
   rw [bodiesL_cons, ← i1]
   by_cases hb : bodyB d.kind = true
   · obtain ⟨j1, j2⟩ := dcD_locals (h8 d (by simp)) h1 hb
     rw [if_pos hb]
     refine ⟨by show (dcD D pre d).2 ++ _ = _; rw [j1], fun x hx hxb => ?_⟩
     rcases List.mem_cons.1 hx with rfl | hx
     · exact j2
     · exact i2 x hx hxb
   · rw [if_neg hb]
     have e : (dcD D pre d).2 = [] := by
      show (if bodyB d.kind = true then [(smDs D (paramsL d.pairs) d.body).2] else []) = []
      rw [if_neg hb]
     refine ⟨by show (dcD D pre d).2 ++ _ = _; rw [e], fun x hx hxb => ?_⟩
     rcases List.mem_cons.1 hx with rfl | hx
     · exact absurd hxb hb
     · exact i2 x hx hxb
/-- how many functions and threads there are ahead -/
def nB (ds : List Dc) (j : Nat) : Nat := (bodiesL (ds.take j)).length
theorem nB_succ {ds : List Dc} {j : Nat} (hj : j < ds.length) : nB ds (j + 1) = nB ds j + (if bodyB ds[j].kind = true then 1 else 0) := by
 unfold nB
 rw [List.take_succ_eq_append_getElem hj, bodiesL_app, List.length_append, bodiesL_cons, List.length_append]
 split <;> rfl
theorem nB_at {ds : List Dc} {j : Nat} (hj : j < ds.length) (hb : bodyB ds[j].kind = true) : ∃ h : nB ds j < (bodiesL ds).length, (bodiesL ds)[nB ds j] = ds[j].pairs ++ varsSs ds[j].body := by
 have e : bodiesL ds = bodiesL (ds.take j) ++ ((ds[j].pairs ++ varsSs ds[j].body) :: bodiesL (ds.drop (j + 1))) := by
  have h := bodiesL_app (ds.take j) (ds.drop j)
  rw [List.take_append_drop] at h
  rw [h, List.drop_eq_getElem_cons hj, bodiesL_cons, if_pos hb]; rfl
 have hl : nB ds j < (bodiesL ds).length := by rw [e, List.length_append, List.length_cons]; unfold nB; omega
 refine ⟨hl, ?_⟩
 have h2 : (bodiesL ds)[nB ds j]? = some (ds[j].pairs ++ varsSs ds[j].body) := by
  rw [e, List.getElem?_append_right (by unfold nB; omega)]
  unfold nB
  simp
 rw [List.getElem?_eq_getElem hl] at h2
 injection h2
theorem nB_end (ds : List Dc) : nB ds ds.length = (bodiesL ds).length := by unfold nB; rw [List.take_length]
theorem nB_le (ds : List Dc) (j : Nat) : nB ds j ≤ (bodiesL ds).length := by
 have h := bodiesL_app (ds.take j) (ds.drop j)
 rw [List.take_append_drop] at h
 rw [h, List.length_append]
 unfold nB
 omega
theorem listK_num (k : Int) : ∀ (ds : List Dc) (i : Nat), (listK k ds i).length = (ds.filter fun d => decide (d.kind = k)).length
 | [], _ => rfl
 | d :: ds, i => by
   unfold listK
   by_cases h : d.kind = k
   · rw [if_pos h, List.length_cons, listK_num k ds, List.filter_cons_of_pos (by simpa using h), List.length_cons]
   · rw [if_neg h, listK_num k ds, List.filter_cons_of_neg (by simpa using h)]
theorem bodies_num (ds : List Dc) : (bodiesL ds).length = (listK 7 ds 0).length + (listK 8 ds 0).length := by
 rw [listK_num, listK_num]
 unfold bodiesL
 rw [List.length_map]
 induction ds with
 | nil => rfl
 | cons d ds ih =>
   by_cases h7 : d.kind = 7
   · rw [List.filter_cons_of_pos (by unfold bodyB; simp [h7]), List.filter_cons_of_pos (by simpa using h7), List.filter_cons_of_neg (by simp [h7]), List.length_cons, List.length_cons, ih]; omega
   · by_cases h8 : d.kind = 8
     · rw [List.filter_cons_of_pos (by unfold bodyB; simp [h8]), List.filter_cons_of_neg (by simp [h8]), List.filter_cons_of_pos (by simpa using h8), List.length_cons, List.length_cons, ih]; omega
     · rw [List.filter_cons_of_neg (by unfold bodyB; simp [h7, h8]), List.filter_cons_of_neg (by simpa using h7), List.filter_cons_of_neg (by simpa using h8), ih]
theorem findI_no {ds : List Dc} {s : List UInt8} (h : firstIx ds s = none) : findI ds s = -1 := by unfold findI; rw [h]
theorem dcW_le {ds : List Dc} {j : Nat} (hj : j < ds.length) : smWs ds[j].body ≤ dcWs ds := by
 have h1 := dcWs_take hj
 have h2 := dcWs_take_le ds (j + 1)
 have h3 : dcW ds[j] = 1 + ds[j].name.length + ds[j].type.length + prWs ds[j].pairs + smWs ds[j].body := rfl
 omega
/-- an operation of a region that is taken first, its place written out -/
theorem take_at {P : Program} {ops : Array Oper} {Q : Exit → Act → World → Prop} {md : Region.Mode} {S : World → Prop} {i d : Nat} {oi : Oper} {v : Value} {fuel : Nat} {listed : Array Bool} {a : Act} {w : World} (hi : ops[i]? = some oi) (hd : oi.dst = some d)
  (hs : Region.noSelect ops = true) (hf : Region.free md ops listed i = true) (hr : (Region.ready md ops listed).contains i = true)
  (hQ : ∀ c a w, Q (.panic c) (a.put oi.dst v) w → Q (.panic c) a w) (hy : YieldsIf P ops S oi v a) (hS : S w)
  (h : wpAnyH P md ops Q S fuel (listed.setIfInBounds i true) ⟨a.tmps.setIfInBounds d v, a.defers⟩ w) : wpAnyH P md ops Q S (fuel + 1) listed a w :=
 wpAnyH_take hi hs hf hr hQ hy hS (by rw [hd]; exact h)
set_option maxRecDepth 100000 in
set_option maxHeartbeats 8000000 in
theorem scopeLocals_walk (w : World) (s : ByteArray) : Calls Tryz.prog 6 #[.string s] w fun e w' => e = .returned (.bool true) ∧ Below w.heap.size w w' := by
 by_cases hl : 20000 < s.size
 · go_enter Tryz.func6, Tryz.ntmps6
   go_wp2_with fail
   refine (alive6_any w).mono ?_
   rintro e w1 ⟨rfl, hb1⟩
   have h1 : (decide ((20000 : Int) < (s.size : Nat))) = true := by simp; omega
   go_wp2
   go_ret
   exact ⟨rfl, hb1⟩
 · have h1 : (decide ((20000 : Int) < (s.size : Nat))) = false := by simp; omega
   obtain ⟨ds, p, c, hP⟩ : ∃ ds p c, progM s.data.toList = (ds, p, c) := ⟨_, _, _, rfl⟩
   have HC1 := Lib.hid (prog6_any s (by omega) hP)
   obtain ⟨hkd, hW⟩ := read6 hP
   have h8 : ∀ d ∈ ds, d.kind = 8 → d.pairs = [] := fun d hd => ((prog_names hP (fun _ => True) fun _ _ _ => trivial).2 d hd).2.2.2.2.2.2.2.1
   have HKD := Lib.hid hkd
   have HW := Lib.hid hW
   have H8 := Lib.hid h8
   clear hP hkd hW h8
   go_enter Tryz.func6, Tryz.ntmps6
   go_wp2_with fail
   refine (alive6_any w).mono ?_
   rintro e w1 ⟨rfl, hb1⟩
   have HB1 := Lib.hid hb1
   clear hb1
   go_wp2_with fail
   refine (HC1.out _).mono ?_
   rintro e w2 ⟨A, n, m, rfl, hd, hb2⟩
   have HB2 := Lib.hid (HB1.out.trans (hb2.mono HB1.out.size))
   have HD := Lib.hid hd
   clear hb2 hd HC1 HB1
   by_cases hc : c = 0
   · subst hc
     go_wp2_with fail
     obtain ⟨X, hX⟩ : ∃ X, X = w2.alloc (.cells #[.slice A n m] 25) := ⟨_, rfl⟩
     have hbX : Below w2.heap.size w2 X := by rw [hX]; exact below_new _ _
     have hp0 : X.cell? ⟨w2.heap.size, 0, none⟩ = some (.slice A n m) := by rw [hX, cell_of_row _ _ 0 _ _ (0, 0) (heap_alloc_new w2 _)]; rfl
     have hlt : w2.heap.size < X.heap.size := by rw [hX]; simp
     have hinX : DcsIn X (· < X.heap.size) ds (.slice A n m) := HD.out.keep (fun b hb => hbX.block b hb.2) (fun b hb => Nat.lt_of_lt_of_le hb.2 hbX.size)
     rw [← hX]
     clear hX
     refine (names6_any X hinX HKD.out HW.out).mono ?_
     rintro e w3 ⟨Af, cf, L, cL, D, cD, rfl, hix, hlv, hdg, hb3⟩
     have hb13 := hbX.trans (hb3.mono hbX.size)
     have HB3 := Lib.hid (HB2.out.trans (hb13.mono HB2.out.size))
     have hin3 : DcsIn w3 (· < w3.heap.size) ds (.slice A n m) := hinX.keep (fun b hb => hb3.block b hb) (fun b hb => Nat.lt_of_lt_of_le hb hb3.size)
     have hp3 := (hb3.cell (p := ⟨w2.heap.size, 0, none⟩) hlt).trans hp0
     have hg3 : w2.heap.size < w3.heap.size := by have := hb3.size; omega
     obtain ⟨P, hPg⟩ : ∃ P, P = w2.heap.size := ⟨_, rfl⟩
     rw [← hPg] at hp3 hg3 ⊢
     have hnum := bodies_num ds
     generalize (listK 1 ds 0).length = n1
     generalize (listK 2 ds 0).length = n2
     generalize (listK 3 ds 0).length = n3
     generalize (listK 4 ds 0).length = n4
     generalize (listK 5 ds 0).length = n5
     generalize (listK 6 ds 0).length = n6
     generalize (listK 7 ds 0).length = n7 at hnum ⊢
     generalize (listK 8 ds 0).length = n8 at hnum ⊢
     have HNUM := Lib.hid hnum
     clear hix hdg hbX hinX hb3 hb13 HD HB2 hPg hp0 hlt hnum
     by_cases hz : (ordD (rawD ds)).length = 0
     · have hraw : rawD ds = [] := (ordD_nil _).1 (List.eq_nil_of_length_eq_zero hz)
       obtain ⟨hloc, hno⟩ := locals_all ds ds [] H8.out hraw
       have hloc' : locD ds = bodiesL ds := hloc
       rw [hloc'] at hlv ⊢
       rw [hz]
       obtain ⟨nL, hnL⟩ : ∃ nL, nL = (bodiesL ds).length := ⟨_, rfl⟩
       rw [← hnL]
       obtain ⟨hl1, hl2, hl3⟩ := hlv
       rw [← hnL] at hl1
       have HNO := Lib.hid hno
       have HLV := Lib.hid hl3
       have HNL := Lib.hid hnL
       have HIN3 := Lib.hid hin3
       obtain ⟨A', c', fp, fb, eA, hc1, hc2, hA, hfp, hfb⟩ := hin3
       cases eA
       have HDC := Lib.hid hA
       have HFP := Lib.hid hfp
       have HFB := Lib.hid hfb
       obtain ⟨N, hN⟩ : ∃ N, N = ds.length := ⟨_, rfl⟩
       rw [← hN] at hc1 hp3 HIN3 ⊢
       have HN := Lib.hid hN
       have HP3 := Lib.hid hp3
       have HG3 := Lib.hid hg3
       clear hraw hloc hno hloc' hz hl3 hnL hA hfp hfb hN hp3 hg3
       go_wp2_with fail
       obtain ⟨Y, hY⟩ : ∃ Y, Y = w3.alloc (.cells #[.slice (Af 1) n1 (cf 1), .slice (Af 2) n2 (cf 2), .slice (Af 3) n3 (cf 3), .slice (Af 4) n4 (cf 4), .slice (Af 5) n5 (cf 5), .slice (Af 6) n6 (cf 6), .slice (Af 7) n7 (cf 7), .slice (Af 8) n8 (cf 8), .slice L nL cL] 34) := ⟨_, rfl⟩
       have hbY : Below w3.heap.size w3 Y := by rw [hY]; exact below_new _ _
       have hrow : Y.heap[w3.heap.size]? = some (.cells #[.slice (Af 1) n1 (cf 1), .slice (Af 2) n2 (cf 2), .slice (Af 3) n3 (cf 3), .slice (Af 4) n4 (cf 4), .slice (Af 5) n5 (cf 5), .slice (Af 6) n6 (cf 6), .slice (Af 7) n7 (cf 7), .slice (Af 8) n8 (cf 8), .slice L nL cL] 34 (0, 0)) := by rw [hY]; exact heap_alloc_new _ _
       rw [← hY]
       obtain ⟨TB, hTB⟩ : ∃ TB, TB = w3.heap.size := ⟨_, rfl⟩
       rw [← hTB] at hrow ⊢
       have hYs : Y.heap.size = TB + 1 := by rw [hY, hTB]; simp
       -- what is there from here on
       have HCE : Hid (∀ V : World, Below Y.heap.size Y V → V.cell? ⟨P, 0, none⟩ = some (.slice A N m) ∧ V.cell? ⟨TB, 6, none⟩ = some (.slice (Af 7) n7 (cf 7)) ∧ V.cell? ⟨TB, 7, none⟩ = some (.slice (Af 8) n8 (cf 8)) ∧ V.cell? ⟨TB, 8, none⟩ = some (.slice L nL cL)) := Lib.hid fun V hV => by
        have hr := (hV.block TB (by omega)).trans hrow
        refine ⟨(hV.cell (p := ⟨P, 0, none⟩) (by have := HG3.out; show P < _; omega)).trans ((hbY.cell (p := ⟨P, 0, none⟩) HG3.out).trans HP3.out), ?_, ?_, ?_⟩
        · rw [cell_of_row V _ 6 _ _ (0, 0) hr]; rfl
        · rw [cell_of_row V _ 7 _ _ (0, 0) hr]; rfl
        · rw [cell_of_row V _ 8 _ _ (0, 0) hr]; rfl
       have HOLD : Hid (∀ (V : World) (b i : Nat) (v : Value), Below Y.heap.size Y V → b < w3.heap.size → w3.cell? ⟨b, i, none⟩ = some v → V.cell? ⟨b, i, none⟩ = some v) := Lib.hid fun V b i v hV hb h => (hV.cell (p := ⟨b, i, none⟩) (by show b < _; omega)).trans ((hbY.cell (p := ⟨b, i, none⟩) hb).trans h)
       have HFI : Hid (∀ (V : World) (t : List UInt8), Below Y.heap.size Y V → firstIx ds t = none → Calls Tryz.prog 10 #[.agg #[.slice A N m], .string (strOf t)] V fun e w' => e = .returned (.int .i64 (-1)) ∧ Below V.heap.size V w') := Lib.hid fun V t hV ht => by
        have h3V : Below w3.heap.size w3 V := hbY.trans (hV.mono (by omega))
        have := find_any V (HIN3.out.keep (fun b hb => h3V.block b hb) (fun b hb => Nat.lt_of_lt_of_le hb h3V.size)) t
        rwa [findI_no ht] at this
       have HIY : Hid (∀ V : World, Below Y.heap.size Y V → Below w3.heap.size w3 V) := Lib.hid fun V hV => hbY.trans (hV.mono (by omega))
       have HB0 : Hid (Below Y.heap.size Y Y) := Lib.hid (Below.refl _ _)
       have H0 : Hid (0 = nB ds 0) := Lib.hid (by unfold nB; rw [List.take_zero]; rfl)
       have hTY : TB < Y.heap.size := by omega
       have HTY := Lib.hid hTY
       have hPT : P < TB := by have := HG3.out; omega
       have HPT := Lib.hid hPT
       have hN8 : (N : Int) ≤ 9223372036854775807 := by omega
       clear hY hbY hrow hYs hTY hPT hTB HP3 HG3 HIN3
       go_loopw [8, 9] (fun s8 s9 wr => ∃ j q : Nat, j ≤ N ∧ q ≤ nL ∧ s8 = .int .i64 q ∧ s9 = .int .i64 j ∧ Hid (q = nB ds j) ∧ Hid (Below Y.heap.size Y wr)) (fun _ s9 _ => N - (intOf s9).toNat)
       case atStart => exact ⟨0, 0, Nat.zero_le _, Nat.zero_le _, rfl, rfl, H0, HB0⟩
       case round =>
        obtain ⟨wo, rfl⟩ : ∃ wo : World, wo = wr := ⟨_, rfl⟩
        obtain ⟨j, q, hj, hq, rfl, rfl, HQ, HB⟩ := hrel
        obtain ⟨e0, e6, e7, e8⟩ := HCE.out wo HB.out
        by_cases hlt : j < N
        · have hjl : j < ds.length := by rw [← HN.out]; exact hlt
          obtain ⟨b, off, eD, hb, hz1, hz2, d0, d1, d2, d3, d4, d5, d6⟩ := HDC.out j hjl
          obtain ⟨PA, pc, eP, hpc1, hpc2, hpr⟩ := HFP.out j hjl
          obtain ⟨BA, bc, eB, -⟩ := IsSms.slice (HFB.out j hjl)
          rw [eP] at d5
          rw [eB] at d6
          have r0 := HOLD.out wo b _ _ HB.out hb d0
          have r1 := HOLD.out wo b _ _ HB.out hb d1
          have r2 := HOLD.out wo b _ _ HB.out hb d2
          have r3 := HOLD.out wo b _ _ HB.out hb d3
          have r4 := HOLD.out wo b _ _ HB.out hb d4
          have r5 := HOLD.out wo b _ _ HB.out hb d5
          have r6 := HOLD.out wo b _ _ HB.out hb d6
          have hnx := nB_succ hjl
          rw [← HQ.out] at hnx
          have hle := nB_le ds (j + 1)
          rw [← HNL.out] at hle
          have hlg := lt_of_cell e8
          have hlg : TB < wo.heap.size := hlg
          have hpg := lt_of_cell e0
          have hpg : P < wo.heap.size := hpg
          by_cases hbd : bodyB ds[j].kind = true
          · obtain ⟨hq1, hq2⟩ := nB_at hjl hbd
            have hno := HNO.out ds[j] (List.getElem_mem hjl) hbd
            have hdec := declared6_any (HFB.out j hjl) 
            have hsw : smWs ds[j].body ≤ 1000000 := by have := dcW_le hjl; have := HW.out; omega
            rw [if_pos hbd] at hnx
            rw [eB] at hdec
            have hlv := HLV.out q (by rw [HQ.out]; exact hq1)
            have hel : (bodiesL ds)[q]'(by rw [HQ.out]; exact hq1) = ds[j].pairs ++ varsSs ds[j].body := by simp only [HQ.out]; exact hq2
            rw [hel] at hlv
            obtain ⟨gL, u, eL, -, hgL, hu, hpu⟩ := hlv
            obtain ⟨LA, lc, eu, hlc1, hlc2, hlp⟩ := hpu
            rw [eu] at hu
            rw [List.length_append] at hu hlc1
            have t0 := HOLD.out wo gL _ _ HB.out hgL hu
            have hkk : ds[j].kind = 7 ∨ ds[j].kind = 8 := by unfold bodyB at hbd; exact of_decide_eq_true hbd
            have hqn : q < nL := by rw [HQ.out, HNL.out]; exact hq1
            have hcall : ∀ (k : Nat) (hk : k < (ds[j].pairs ++ varsSs ds[j].body).length), firstIx ds (ds[j].pairs ++ varsSs ds[j].body)[k].name = none := fun k hk => hno _ (List.getElem_mem hk)
            have hpk : ∀ k : Nat, k < ds[j].pairs.length → (ds[j].pairs ++ varsSs ds[j].body)[k]? = ds[j].pairs[k]? := fun k hk => List.getElem?_append_left hk
            have hvl : (varsSs ds[j].body).length ≤ 1000000 := Nat.le_trans (varsSs_le _) hsw
            have HPK := Lib.hid hpk
            have HPR := Lib.hid hpr
            have HLP := Lib.hid hlp
            have HCALL := Lib.hid hcall
            have HDEC : Hid (∀ V : World, Below Y.heap.size Y V → ∀ i, Calls Tryz.prog 15 #[.slice BA ds[j].body.length bc] (V.drewN i) fun e w' => e = .returned (.int .i64 ((varsSs ds[j].body).length : Nat)) ∧ ∃ m, w' = (V.drewN i).drewN m) := Lib.hid fun V hV i => hdec (V.drewN i) hsw (by have h := HIY.out V hV; exact ⟨h.os, h.tape, h.output, h.size, h.block⟩)
            have HNX := Lib.hid hnx
            have HGL := Lib.hid hgL
            have HU := Lib.hid hu
            clear hpk hpr hlp hcall hdec hnx hno hsw hel hu hq1 hq2 d0 d1 d2 d3 d4 d5 d6 hz1 hz2 eP eB
            subst eL eD
            generalize hps : ds[j].pairs ++ varsSs ds[j].body = lst at HPK HLP HCALL
            have hlen : lst.length = ds[j].pairs.length + (varsSs ds[j].body).length := by rw [← hps, List.length_append]
            have HLEN := Lib.hid hlen
            clear hps hlen
            generalize ds[j].pairs = prs at HPK HPR HLEN r5 hpc1 t0 hlc1 HU
            generalize (varsSs ds[j].body).length = vn at HLEN HDEC t0 hlc1 HU hvl
            generalize ds[j].body.length = bn at HDEC r6
            obtain ⟨pn, hpn⟩ : ∃ pn, pn = prs.length := ⟨_, rfl⟩
            rw [← hpn] at HLEN r5 hpc1 t0 hlc1 HU
            have HPN := Lib.hid hpn
            generalize ds[j].kind = kd at r0 hkk hbd
            generalize ds[j].pl = k1 at r1
            generalize ds[j].num = k2 at r2
            generalize strOf ds[j].name = k3 at r3
            generalize strOf ds[j].type = k4 at r4
            clear hpn hbd eu hjl
            have hsum : IntKind.i64.wrap ((pn : Int) + (vn : Int)) = (pn : Int) + (vn : Int) := IntWalk.i64_in _ ⟨by omega, by omega⟩
            have hsq : (((pn + vn : Nat) : Int) == (pn : Int) + (vn : Int)) = true := by simp
            have hwj : IntKind.i64.wrap ((j : Int) + 1) = (j : Int) + 1 := IntWalk.i64_in _ ⟨by omega, by omega⟩
            have hwq : IntKind.i64.wrap ((q : Int) + 1) = (q : Int) + 1 := IntWalk.i64_in _ ⟨by omega, by omega⟩
            obtain ⟨X1, hX1⟩ : ∃ X1, X1 = wo.alloc (.cells #[.int .i64 kd, .int .i64 k1, .int .i64 k2, .string k3, .string k4, .slice PA pn pc, .slice BA bn bc] 46) := ⟨_, rfl⟩
            have hbX : Below wo.heap.size wo X1 := by rw [hX1]; exact below_new _ _
            have hrX : X1.heap[wo.heap.size]? = some (.cells #[.int .i64 kd, .int .i64 k1, .int .i64 k2, .string k3, .string k4, .slice PA pn pc, .slice BA bn bc] 46 (0, 0)) := by rw [hX1]; exact heap_alloc_new _ _
            obtain ⟨XB, hXB⟩ : ∃ XB, XB = wo.heap.size := ⟨_, rfl⟩
            rw [← hXB] at hrX
            have HX5 : Hid (∀ V : World, Below X1.heap.size X1 V → V.cell? ⟨XB, 5, none⟩ = some (.slice PA pn pc) ∧ V.cell? ⟨XB, 6, none⟩ = some (.slice BA bn bc)) := Lib.hid fun V hV => by
             have hr := (hV.block XB (lt_of_heap hrX)).trans hrX
             exact ⟨by rw [cell_of_row V _ 5 _ _ (0, 0) hr]; rfl, by rw [cell_of_row V _ 6 _ _ (0, 0) hr]; rfl⟩
            have HBV : Hid (∀ V : World, Below X1.heap.size X1 V → Below Y.heap.size Y V) := Lib.hid fun V hV => (HB.out.trans (hbX.mono HB.out.size)).trans (hV.mono (by have := HB.out.size; have := hbX.size; omega))
            have HXX := Lib.hid hX1
            have HEX := Lib.hid hXB
            have f5 := (HX5.out X1 (Below.refl _ _)).1
            have f6 := (HX5.out X1 (Below.refl _ _)).2
            have f8 := (HCE.out X1 (HBV.out _ (Below.refl _ _))).2.2.2
            have ft := HOLD.out X1 gL _ _ (HBV.out _ (Below.refl _ _)) HGL.out HU.out
            have HDX := Lib.hid (HDEC.out X1 (HBV.out _ (Below.refl _ _)))
            clear hX1 hbX hrX hXB
            rcases hkk with rfl | rfl
            all_goals
             go_upto_region 17 with fail
             rw [← HXX.out, ← HEX.out]
             clear e0 e6 e7 e8 r0 r1 r2 r3 r4 r5 r6 t0
             go_quiet ((go_at_call 15; with_reducible exact Calls.quiet_of (HDX.out _)))
             clear f5 f6 f8 ft
             go_wp2
             go_loopw [11] (fun s11 wr => ∃ k : Nat, k ≤ pn + vn ∧ s11 = .int .i64 k ∧ Hid (Below X1.heap.size X1 wr)) (fun s11 _ => pn + vn - (intOf s11).toNat)
             case atStart => exact ⟨0, Nat.zero_le _, rfl, Lib.hid ⟨rfl, rfl, rfl, Nat.le_refl _, fun _ _ => rfl⟩⟩
             case round =>
              obtain ⟨wi, rfl⟩ : ∃ wi : World, wi = wr := ⟨_, rfl⟩
              obtain ⟨k, hk, rfl, HBI⟩ := hrel
              obtain ⟨e0, -, -, e8⟩ := HCE.out wi (HBV.out _ HBI.out)
              obtain ⟨x5, -⟩ := HX5.out wi HBI.out
              have t0 := HOLD.out wi gL _ _ (HBV.out _ HBI.out) HGL.out HU.out
              by_cases hkl : k < pn + vn
              · have hkl' : k < lst.length := by rw [HLEN.out]; exact hkl
                obtain ⟨lb, lo, eLA, hlb, -, -, la0, la1⟩ := HLP.out k hkl'
                have hfk := HCALL.out k hkl'
                have hpk := HPK.out k
                rw [List.getElem?_eq_getElem hkl'] at hpk
                obtain ⟨pr, hpr0⟩ : ∃ pr, pr = lst[k] := ⟨_, rfl⟩
                rw [← hpr0] at la0 la1 hfk hpk
                have v0 := HOLD.out wi lb _ _ (HBV.out _ HBI.out) hlb la0
                have v1 := HOLD.out wi lb _ _ (HBV.out _ HBI.out) hlb la1
                have HF : Hid (∀ V : World, Below X1.heap.size X1 V → Calls Tryz.prog 10 #[.agg #[.slice (some ⟨b, off, none⟩) N m], .string (strOf pr.name)] V fun e w' => e = .returned (.int .i64 (-1)) ∧ Below V.heap.size V w') := Lib.hid fun V hV => HFI.out V pr.name (HBV.out V hV) hfk
                have HV0 : Hid (∀ V : World, Below X1.heap.size X1 V → V.cell? ⟨P, 0, none⟩ = some (.slice (some ⟨b, off, none⟩) N m) ∧ V.cell? ⟨TB, 8, none⟩ = some (.slice (some ⟨gL, 0, none⟩) nL cL) ∧ V.cell? ⟨gL, q, none⟩ = some (.slice LA (pn + vn) lc) ∧ V.cell? ⟨lb, lo + k * 2, none⟩ = some (.string (strOf pr.name)) ∧ V.cell? ⟨lb, lo + k * 2 + 1, none⟩ = some (.string (strOf pr.type)) ∧ V.cell? ⟨XB, 5, none⟩ = some (.slice PA pn pc)) := Lib.hid fun V hV =>
                 ⟨(HCE.out V (HBV.out V hV)).1, (HCE.out V (HBV.out V hV)).2.2.2, HOLD.out V gL _ _ (HBV.out V hV) HGL.out HU.out, HOLD.out V lb _ _ (HBV.out V hV) hlb la0, HOLD.out V lb _ _ (HBV.out V hV) hlb la1, (HX5.out V hV).1⟩
                have hwk : IntKind.i64.wrap ((k : Int) + 1) = (k : Int) + 1 := IntWalk.i64_in _ ⟨by omega, by omega⟩
                subst eLA
                by_cases hkp : k < pn
                · have hkp' : k < prs.length := by rw [← HPN.out]; exact hkp
                  obtain ⟨pb, po, ePA, hpb, -, -, pa0, pa1⟩ := HPR.out k hkp'
                  have hpk2 := hpk hkp'
                  rw [List.getElem?_eq_getElem hkp'] at hpk2
                  injection hpk2 with hpk2
                  rw [← hpk2] at pa0 pa1
                  have HV1 : Hid (∀ V : World, Below X1.heap.size X1 V → V.cell? ⟨pb, po + k * 2, none⟩ = some (.string (strOf pr.name)) ∧ V.cell? ⟨pb, po + k * 2 + 1, none⟩ = some (.string (strOf pr.type))) := Lib.hid fun V hV =>
                   ⟨HOLD.out V pb _ _ (HBV.out V hV) hpb pa0, HOLD.out V pb _ _ (HBV.out V hV) hpb pa1⟩
                  generalize strOf pr.name = NM at HF HV0 HV1 v0
                  generalize strOf pr.type = TY at HV0 HV1 v1
                  subst ePA
                  have HB2 : Hid (Below X1.heap.size X1 wi.drew) := Lib.hid HBI.out.drew
                  obtain ⟨y0, y1, y2, y3, y4, y5⟩ := HV0.out _ HB2.out
                  obtain ⟨y6, y7⟩ := HV1.out _ HB2.out
                  clear hpk hpk2 pa0 pa1 la0 la1 hpr0 hfk hkl' hkp' hpb hlb
                  go_wp2
                  go_region_held3 (fun W => W.cell? ⟨P, 0, none⟩ = some (.slice (some ⟨b, off, none⟩) N m) ∧ W.cell? ⟨TB, 8, none⟩ = some (.slice (some ⟨gL, 0, none⟩) nL cL) ∧ W.cell? ⟨gL, q, none⟩ = some (.slice (some ⟨lb, lo, none⟩) (pn + vn) lc) ∧ W.cell? ⟨lb, lo + k * 2, none⟩ = some (.string NM) ∧ W.cell? ⟨lb, lo + k * 2 + 1, none⟩ = some (.string TY) ∧ W.cell? ⟨XB, 5, none⟩ = some (.slice (some ⟨pb, po, none⟩) pn pc) ∧ W.cell? ⟨pb, po + k * 2, none⟩ = some (.string NM) ∧ W.cell? ⟨pb, po + k * 2 + 1, none⟩ = some (.string TY)) (first | exact ⟨y0, y1, y2, y3, y4, y5, y6, y7⟩ | with_reducible exact ⟨z0, z1, z2, z3, z4, z5, z6, z7⟩ | go_keep)
                   (first
                     | (go_at_call 10; refine (HF.out _ HB2.out).mono ?_; rintro e wf ⟨rfl, hbf⟩; have HBF : Hid (Below X1.heap.size X1 wf) := Lib.hid (HB2.out.trans (hbf.mono HB2.out.size)); obtain ⟨z0, z1, z2, z3, z4, z5⟩ := HV0.out _ HBF.out; obtain ⟨z6, z7⟩ := HV1.out _ HBF.out; clear hbf))
                  all_goals
                   go_wp2
                   go_roundw
                   case rel => exact ⟨k + 1, by omega, by go_num, HBF⟩
                   case measure => first | (simp [intOf]; done) | (simp [intOf]; omega)
                · generalize strOf pr.name = NM at HF HV0 v0
                  have hkf : (decide ((k : Int) < (pn : Nat))) = false := decide_eq_false (by omega)
                  have HB2 : Hid (Below X1.heap.size X1 wi.drew) := Lib.hid HBI.out.drew
                  obtain ⟨y0, y1, y2, y3, -, y5⟩ := HV0.out _ HB2.out
                  clear hpk la0 la1 hpr0 hfk hkl' hlb
                  go_upto_region 22 with fail
                  refine wp_region_held_drew (S := fun W => W.cell? ⟨P, 0, none⟩ = some (.slice (some ⟨b, off, none⟩) N m) ∧ W.cell? ⟨TB, 8, none⟩ = some (.slice (some ⟨gL, 0, none⟩) nL cL) ∧ W.cell? ⟨gL, q, none⟩ = some (.slice (some ⟨lb, lo, none⟩) (pn + vn) lc) ∧ W.cell? ⟨lb, lo + k * 2, none⟩ = some (.string NM) ∧ W.cell? ⟨XB, 5, none⟩ = some (.slice PA pn pc)) (by kernel_rfl) ⟨y0, y1, y2, y3, y5⟩ (fun hHeld => ?_)
                  refine take_at (i := 0) (oi := _) (v := .agg #[.slice (some ⟨b, off, none⟩) N m]) rfl rfl (by kernel_rfl) (by kernel_rfl) (by kernel_rfl) (fun _ _ _ h => h) (Or.inl ⟨by rfl, fun W hS => ?_⟩) hHeld ?_
                  · obtain ⟨s0, s1, s2, s3, s4⟩ := hS
                    go_simp
                  simp only [List.setIfInBounds_toArray, List.set_cons_zero, List.set_cons_succ]
                  refine take_at (i := 1) (oi := _) (v := .pointer (some ⟨TB, 8, none⟩)) rfl rfl (by kernel_rfl) (by kernel_rfl) (by kernel_rfl) (fun _ _ _ h => h) (Or.inl ⟨by rfl, fun W hS => ?_⟩) hHeld ?_
                  · obtain ⟨s0, s1, s2, s3, s4⟩ := hS
                    go_simp
                  simp only [List.setIfInBounds_toArray, List.set_cons_zero, List.set_cons_succ]
                  refine take_at (i := 2) (oi := _) (v := .slice (some ⟨gL, 0, none⟩) nL cL) rfl rfl (by kernel_rfl) (by kernel_rfl) (by kernel_rfl) (fun _ _ _ h => h) (Or.inl ⟨by rfl, fun W hS => ?_⟩) hHeld ?_
                  · obtain ⟨s0, s1, s2, s3, s4⟩ := hS
                    go_simp
                  simp only [List.setIfInBounds_toArray, List.set_cons_zero, List.set_cons_succ]
                  refine take_at (i := 3) (oi := _) (v := .int .i64 (q : Nat)) rfl rfl (by kernel_rfl) (by kernel_rfl) (by kernel_rfl) (fun _ _ _ h => h) (Or.inl ⟨by rfl, fun W hS => ?_⟩) hHeld ?_
                  · obtain ⟨s0, s1, s2, s3, s4⟩ := hS
                    go_simp
                  simp only [List.setIfInBounds_toArray, List.set_cons_zero, List.set_cons_succ]
                  refine take_at (i := 4) (oi := _) (v := .pointer (some ⟨gL, q, none⟩)) rfl rfl (by kernel_rfl) (by kernel_rfl) (by kernel_rfl) (fun _ _ _ h => h) (Or.inl ⟨by rfl, fun W hS => ?_⟩) hHeld ?_
                  · obtain ⟨s0, s1, s2, s3, s4⟩ := hS
                    go_simp
                  simp only [List.setIfInBounds_toArray, List.set_cons_zero, List.set_cons_succ]
                  refine take_at (i := 5) (oi := _) (v := .slice (some ⟨lb, lo, none⟩) (pn + vn) lc) rfl rfl (by kernel_rfl) (by kernel_rfl) (by kernel_rfl) (fun _ _ _ h => h) (Or.inl ⟨by rfl, fun W hS => ?_⟩) hHeld ?_
                  · obtain ⟨s0, s1, s2, s3, s4⟩ := hS
                    go_simp
                  simp only [List.setIfInBounds_toArray, List.set_cons_zero, List.set_cons_succ]
                  refine take_at (i := 6) (oi := _) (v := .int .i64 (k : Nat)) rfl rfl (by kernel_rfl) (by kernel_rfl) (by kernel_rfl) (fun _ _ _ h => h) (Or.inl ⟨by rfl, fun W hS => ?_⟩) hHeld ?_
                  · obtain ⟨s0, s1, s2, s3, s4⟩ := hS
                    go_simp
                  simp only [List.setIfInBounds_toArray, List.set_cons_zero, List.set_cons_succ]
                  refine take_at (i := 7) (oi := _) (v := .pointer (some ⟨lb, lo + k * 2, none⟩)) rfl rfl (by kernel_rfl) (by kernel_rfl) (by kernel_rfl) (fun _ _ _ h => h) (Or.inl ⟨by rfl, fun W hS => ?_⟩) hHeld ?_
                  · obtain ⟨s0, s1, s2, s3, s4⟩ := hS
                    go_simp
                  simp only [List.setIfInBounds_toArray, List.set_cons_zero, List.set_cons_succ]
                  refine take_at (i := 8) (oi := _) (v := .pointer (some ⟨lb, lo + k * 2, none⟩)) rfl rfl (by kernel_rfl) (by kernel_rfl) (by kernel_rfl) (fun _ _ _ h => h) (Or.inl ⟨by rfl, fun W hS => ?_⟩) hHeld ?_
                  · obtain ⟨s0, s1, s2, s3, s4⟩ := hS
                    go_simp
                  simp only [List.setIfInBounds_toArray, List.set_cons_zero, List.set_cons_succ]
                  refine take_at (i := 9) (oi := _) (v := .string NM) rfl rfl (by kernel_rfl) (by kernel_rfl) (by kernel_rfl) (fun _ _ _ h => h) (Or.inl ⟨by rfl, fun W hS => ?_⟩) hHeld ?_
                  · obtain ⟨s0, s1, s2, s3, s4⟩ := hS
                    go_simp
                  simp only [List.setIfInBounds_toArray, List.set_cons_zero, List.set_cons_succ]
                  refine wpAnyH_ready (rs := [10]) (by kernel_rfl) (by simp) ?_
                  refine AllReadyH.cons rfl (fun K hK => ?_) AllReadyH.nil
                  go_simp
                  refine (HF.out _ HB2.out).mono ?_
                  rintro e wf ⟨rfl, hbf⟩
                  have HBF : Hid (Below X1.heap.size X1 wf) := Lib.hid (HB2.out.trans (hbf.mono HB2.out.size))
                  obtain ⟨z0, z1, z2, z3, -, z5⟩ := HV0.out _ HBF.out
                  clear hbf hHeld
                  go_wp2_with fail
                  refine hK.out _ _ ⟨z0, z1, z2, z3, z5⟩ (fun hHeld => ?_)
                  clear hK K
                  refine take_at (i := 11) (oi := _) (v := .bool false) rfl rfl (by kernel_rfl) (by kernel_rfl) (by kernel_rfl) (fun _ _ _ h => h) (Or.inl ⟨by rfl, fun W hS => ?_⟩) hHeld ?_
                  · obtain ⟨s0, s1, s2, s3, s4⟩ := hS
                    go_simp
                  simp only [List.setIfInBounds_toArray, List.set_cons_zero, List.set_cons_succ]
                  refine take_at (i := 12) (oi := _) (v := .bool false) rfl rfl (by kernel_rfl) (by kernel_rfl) (by kernel_rfl) (fun _ _ _ h => h) (Or.inl ⟨by rfl, fun W hS => ?_⟩) hHeld ?_
                  · obtain ⟨s0, s1, s2, s3, s4⟩ := hS
                    go_simp
                  simp only [List.setIfInBounds_toArray, List.set_cons_zero, List.set_cons_succ]
                  refine take_at (i := 13) (oi := _) (v := .int .i64 (k : Nat)) rfl rfl (by kernel_rfl) (by kernel_rfl) (by kernel_rfl) (fun _ _ _ h => h) (Or.inl ⟨by rfl, fun W hS => ?_⟩) hHeld ?_
                  · obtain ⟨s0, s1, s2, s3, s4⟩ := hS
                    go_simp
                  simp only [List.setIfInBounds_toArray, List.set_cons_zero, List.set_cons_succ]
                  refine take_at (i := 14) (oi := _) (v := .pointer (some ⟨XB, 5, none⟩)) rfl rfl (by kernel_rfl) (by kernel_rfl) (by kernel_rfl) (fun _ _ _ h => h) (Or.inl ⟨by rfl, fun W hS => ?_⟩) hHeld ?_
                  · obtain ⟨s0, s1, s2, s3, s4⟩ := hS
                    go_simp
                  simp only [List.setIfInBounds_toArray, List.set_cons_zero, List.set_cons_succ]
                  refine take_at (i := 15) (oi := _) (v := .slice PA pn pc) rfl rfl (by kernel_rfl) (by kernel_rfl) (by kernel_rfl) (fun _ _ _ h => h) (Or.inl ⟨by rfl, fun W hS => ?_⟩) hHeld ?_
                  · obtain ⟨s0, s1, s2, s3, s4⟩ := hS
                    go_simp
                  simp only [List.setIfInBounds_toArray, List.set_cons_zero, List.set_cons_succ]
                  refine take_at (i := 16) (oi := _) (v := .int .i64 (pn : Nat)) rfl rfl (by kernel_rfl) (by kernel_rfl) (by kernel_rfl) (fun _ _ _ h => h) (Or.inl ⟨by rfl, fun W hS => ?_⟩) hHeld ?_
                  · obtain ⟨s0, s1, s2, s3, s4⟩ := hS
                    go_simp
                  simp only [List.setIfInBounds_toArray, List.set_cons_zero, List.set_cons_succ]
                  refine take_at (i := 17) (oi := _) (v := .bool false) rfl rfl (by kernel_rfl) (by kernel_rfl) (by kernel_rfl) (fun _ _ _ h => h) (Or.inl ⟨by rfl, fun W hS => ?_⟩) hHeld ?_
                  · obtain ⟨s0, s1, s2, s3, s4⟩ := hS
                    go_simp
                  simp only [List.setIfInBounds_toArray, List.set_cons_zero, List.set_cons_succ]
                  refine take_at (i := 18) (oi := _) (v := .bool false) rfl rfl (by kernel_rfl) (by kernel_rfl) (by kernel_rfl) (fun _ _ _ h => h) (Or.inl ⟨by rfl, fun W hS => ?_⟩) hHeld ?_
                  · obtain ⟨s0, s1, s2, s3, s4⟩ := hS
                    go_simp
                  simp only [List.setIfInBounds_toArray, List.set_cons_zero, List.set_cons_succ]
                  refine take_at (i := 19) (oi := _) (v := undef) rfl rfl (by kernel_rfl) (by kernel_rfl) (by kernel_rfl) (fun _ _ _ h => h) (Or.inr ⟨by kernel_rfl, rfl⟩) hHeld ?_
                  simp only [List.setIfInBounds_toArray, List.set_cons_zero, List.set_cons_succ]
                  refine take_at (i := 20) (oi := _) (v := undef) rfl rfl (by kernel_rfl) (by kernel_rfl) (by kernel_rfl) (fun _ _ _ h => h) (Or.inr ⟨by kernel_rfl, rfl⟩) hHeld ?_
                  simp only [List.setIfInBounds_toArray, List.set_cons_zero, List.set_cons_succ]
                  refine take_at (i := 21) (oi := _) (v := undef) rfl rfl (by kernel_rfl) (by kernel_rfl) (by kernel_rfl) (fun _ _ _ h => h) (Or.inr ⟨by kernel_rfl, rfl⟩) hHeld ?_
                  simp only [List.setIfInBounds_toArray, List.set_cons_zero, List.set_cons_succ]
                  refine take_at (i := 22) (oi := _) (v := undef) rfl rfl (by kernel_rfl) (by kernel_rfl) (by kernel_rfl) (fun _ _ _ h => h) (Or.inr ⟨by kernel_rfl, rfl⟩) hHeld ?_
                  simp only [List.setIfInBounds_toArray, List.set_cons_zero, List.set_cons_succ]
                  refine take_at (i := 23) (oi := _) (v := undef) rfl rfl (by kernel_rfl) (by kernel_rfl) (by kernel_rfl) (fun _ _ _ h => h) (Or.inr ⟨by kernel_rfl, rfl⟩) hHeld ?_
                  simp only [List.setIfInBounds_toArray, List.set_cons_zero, List.set_cons_succ]
                  refine take_at (i := 24) (oi := _) (v := undef) rfl rfl (by kernel_rfl) (by kernel_rfl) (by kernel_rfl) (fun _ _ _ h => h) (Or.inr ⟨by kernel_rfl, rfl⟩) hHeld ?_
                  simp only [List.setIfInBounds_toArray, List.set_cons_zero, List.set_cons_succ]
                  refine take_at (i := 25) (oi := _) (v := undef) rfl rfl (by kernel_rfl) (by kernel_rfl) (by kernel_rfl) (fun _ _ _ h => h) (Or.inr ⟨by kernel_rfl, rfl⟩) hHeld ?_
                  simp only [List.setIfInBounds_toArray, List.set_cons_zero, List.set_cons_succ]
                  refine take_at (i := 26) (oi := _) (v := undef) rfl rfl (by kernel_rfl) (by kernel_rfl) (by kernel_rfl) (fun _ _ _ h => h) (Or.inr ⟨by kernel_rfl, rfl⟩) hHeld ?_
                  simp only [List.setIfInBounds_toArray, List.set_cons_zero, List.set_cons_succ]
                  refine take_at (i := 27) (oi := _) (v := undef) rfl rfl (by kernel_rfl) (by kernel_rfl) (by kernel_rfl) (fun _ _ _ h => h) (Or.inr ⟨by kernel_rfl, rfl⟩) hHeld ?_
                  simp only [List.setIfInBounds_toArray, List.set_cons_zero, List.set_cons_succ]
                  refine take_at (i := 28) (oi := _) (v := undef) rfl rfl (by kernel_rfl) (by kernel_rfl) (by kernel_rfl) (fun _ _ _ h => h) (Or.inr ⟨by kernel_rfl, rfl⟩) hHeld ?_
                  simp only [List.setIfInBounds_toArray, List.set_cons_zero, List.set_cons_succ]
                  refine take_at (i := 29) (oi := _) (v := undef) rfl rfl (by kernel_rfl) (by kernel_rfl) (by kernel_rfl) (fun _ _ _ h => h) (Or.inr ⟨by kernel_rfl, rfl⟩) hHeld ?_
                  simp only [List.setIfInBounds_toArray, List.set_cons_zero, List.set_cons_succ]
                  refine take_at (i := 30) (oi := _) (v := undef) rfl rfl (by kernel_rfl) (by kernel_rfl) (by kernel_rfl) (fun _ _ _ h => h) (Or.inr ⟨by kernel_rfl, rfl⟩) hHeld ?_
                  simp only [List.setIfInBounds_toArray, List.set_cons_zero, List.set_cons_succ]
                  refine take_at (i := 31) (oi := _) (v := undef) rfl rfl (by kernel_rfl) (by kernel_rfl) (by kernel_rfl) (fun _ _ _ h => h) (Or.inr ⟨by kernel_rfl, rfl⟩) hHeld ?_
                  simp only [List.setIfInBounds_toArray, List.set_cons_zero, List.set_cons_succ]
                  refine take_at (i := 32) (oi := _) (v := undef) rfl rfl (by kernel_rfl) (by kernel_rfl) (by kernel_rfl) (fun _ _ _ h => h) (Or.inr ⟨by kernel_rfl, rfl⟩) hHeld ?_
                  simp only [List.setIfInBounds_toArray, List.set_cons_zero, List.set_cons_succ]
                  refine take_at (i := 33) (oi := _) (v := .bool false) rfl rfl (by kernel_rfl) (by kernel_rfl) (by kernel_rfl) (fun _ _ _ h => h) (Or.inl ⟨by rfl, fun W hS => ?_⟩) hHeld ?_
                  · obtain ⟨s0, s1, s2, s3, s4⟩ := hS
                    go_simp
                  simp only [List.setIfInBounds_toArray, List.set_cons_zero, List.set_cons_succ]
                  refine take_at (i := 34) (oi := _) (v := .bool false) rfl rfl (by kernel_rfl) (by kernel_rfl) (by kernel_rfl) (fun _ _ _ h => h) (Or.inl ⟨by rfl, fun W hS => ?_⟩) hHeld ?_
                  · obtain ⟨s0, s1, s2, s3, s4⟩ := hS
                    go_simp
                  simp only [List.setIfInBounds_toArray, List.set_cons_zero, List.set_cons_succ]
                  refine wpAnyH_done (by kernel_rfl) ?_ _
                  go_wp2
                  go_roundw
                  case rel => exact ⟨k + 1, by omega, by go_num, HBF⟩
                  case measure => first | (simp [intOf]; done) | (simp [intOf]; omega)
              · have hke : k = pn + vn := by omega
                subst hke
                go_wp2
                go_roundw
                case rel => exact ⟨j + 1, q + 1, by omega, by omega, by go_num, by go_num, Lib.hid HNX.out.symm, Lib.hid (HBV.out _ HBI.out)⟩
                case measure => first | (simp [intOf]; done) | (simp [intOf]; omega)
          · have hnk7 : (ds[j].kind != 7) = true := by unfold bodyB at hbd; simp at hbd ⊢; exact hbd.1
            have hnk8 : (ds[j].kind != 8) = true := by unfold bodyB at hbd; simp at hbd ⊢; exact hbd.2
            have hp7 : ¬ ds[j].kind = 7 := by simpa using hnk7
            have hp8 : ¬ ds[j].kind = 8 := by simpa using hnk8
            rw [if_neg hbd] at hnx
            have HNX := Lib.hid hnx
            subst eD
            generalize ds[j].kind = kd at r0 hnk7 hnk8 hp7 hp8
            generalize ds[j].pl = k1 at r1
            generalize ds[j].num = k2 at r2
            generalize strOf ds[j].name = k3 at r3
            generalize strOf ds[j].type = k4 at r4
            generalize ds[j].pairs.length = k5 at r5
            generalize ds[j].body.length = k6 at r6
            have hwj : IntKind.i64.wrap ((j : Int) + 1) = (j : Int) + 1 := IntWalk.i64_in _ ⟨by omega, by omega⟩
            clear hnx hbd d0 d1 d2 d3 d4 d5 d6 hz1 hz2
            go_wp2
            go_roundw
            case rel => exact ⟨j + 1, q, by omega, by omega, rfl, by go_num, Lib.hid (by rw [HNX.out]; rfl), Lib.hid (HB.out.alloc HB.out.size _)⟩
            case measure => first | (simp [intOf]; done) | (simp [intOf]; omega)
        · have hend : j = N := by omega
          have hqe : q = nL := by rw [HQ.out, hend, HN.out, HNL.out]; exact nB_end ds
          have hsm : n7 + n8 = nL := by rw [HNL.out, HNUM.out]
          subst hqe
          subst hsm
          have hw78 : IntKind.i64.wrap ((n7 : Int) + (n8 : Int)) = (n7 : Int) + (n8 : Int) := IntWalk.i64_in _ ⟨by omega, by omega⟩
          go_wp2
          go_ret
          exact ⟨by simp, HB3.out.trans ((HIY.out _ HB.out).mono HB3.out.size)⟩
     · obtain ⟨z, hz2⟩ : ∃ z, z = (ordD (rawD ds)).length := ⟨_, rfl⟩
       rw [← hz2] at hz ⊢
       generalize (locD ds).length = n9
       have hzp : (decide ((0 : Int) < (z : Nat))) = true := by simp; omega
       clear hlv hin3 hz2
       go_wp2
       go_ret
       exact ⟨rfl, HB3.out.alloc HB3.out.size _⟩
   · have hc0 : (((c : Nat) : Int) == 0) = false := by simp; omega
     go_wp2
     go_ret
     exact ⟨rfl, HB2.out.alloc HB2.out.size _⟩

section
open Go Go.ChangeShapes Go.WideShapes Go.ChangeAt Go.ChangeMaps Go.RowKit

set_option maxRecDepth 100000 in
theorem scopeLocals_lifted (os : Os) (started : os.Started) (H : Type) (enc : TypeId × Value → H) :
  ReturnsInHanded {} Tryz.checked os 6 .any (fun w args => (Rows.scopeLocalsSpec.pre enc Tryz.prog Tryz.f6 Rows.scopeLocalsRow.domain false w args ∧ laidMetH Tryz.prog laidL w) ∧ sizedMet enc Tryz.prog Tryz.f6 (OpenSpec.ofChange Rows.scopeLocalsSpec) false w args)
   (Rows.scopeLocalsSpec.post enc Tryz.prog Tryz.f6 false true false false) := by
 refine returnsInHanded_of_change_and (C := Tryz.checked) (X := fun w _ => laidMetH Tryz.prog laidL w) (fun _ _ _ hh h => h.of_heap hh) ownKnob_none started (by kernel_rfl) Tryz.func6
  (ChangeSpec.witness_shaped (enc := enc) (C := Tryz.checked) (os := os) (X := fun w _ => laidMetH Tryz.prog laidL w) false (World.doorLaid Tryz.prog 200 os) #[.string ⟨#[]⟩] 8 rfl (World.shaped_of_RefB (by kernel_rfl) (by kernel_rfl)) (by kernel_rfl) (by kernel_rfl) (by kernel_rfl) (door_met os _)) ?_
 intro W base args ds gs before hval0 hW _ hwt hL _
 have hval : ∀ (j : Nat) t v, Tryz.f6.params[j]? = some t → args[j]? = some v → Value.okWide Tryz.prog W .any base t v := hval0
 have hW' := hW
 obtain ⟨p, q, hA0, hV, rfl, _, _⟩ := hW
 have hA : DataW.TrodAll enc Tryz.prog W 0 (fun _ => true) true Tryz.f6.params.toList args.toList ds p := hA0
 rw [Tryz.params6] at hA hval
 obtain ⟨v0, vs0, d0, ds0, p0, q0, hargs, rfl, rfl, h0, r0⟩ := trodAll_cons hA
 obtain ⟨rfl, rfl, rfl⟩ := trodAll_nil r0
 obtain rfl : args = #[v0] := by cases args; simp_all
 obtain ⟨rfl, rfl⟩ := trodVars_none hV
 obtain ⟨x0, rfl, rfl, rfl, w0⟩ := open_string Tryz.underlying9 (hval 0 9 v0 rfl rfl) h0
 clear hA0 hval0
 simp only [List.append_nil] at hW'
 have hlt := fun x hx => hW'.lt x hx
 refine (scopeLocals_walk W x0).mono fun e W' ⟨he, hb⟩ => ?_
 subst he
 exact ⟨_, rfl, _, _, _, [], _, [], hW', trodAll_mk1 (shut_true _), (trodAll_cons_mk (shut_string Tryz.underlying9 w0) trodAll_mk0), rfl, hb.frame _, fun h => by cases h⟩

theorem scopeLocals_holds : Rows.ScopeLocalsSaid :=
 OpenClaim.holds_of_wide 6 Tryz.f6 rfl rfl rfl rfl rfl rfl rfl ⟨rfl, rfl, rfl, rfl, rfl⟩ rfl rfl rfl rfl rfl (by kernel_rfl) Tryz.func6 (by kernel_rfl)
  (of_decide_eq_true (by kernel_rfl)) (by unfold Func.isWrapper; first | (rw [if_pos (by decide +kernel)]; kernel_rfl) | (rw [if_neg (by decide +kernel)]; exact ⟨rfl, rfl⟩))
  (fun os started H enc _ => scopeLocals_lifted os started H enc)

theorem scopeLocals_card_holds : Rows.ScopeLocalsCardSaid :=
 Claim7.holds_tied_plain_at .later [] [.data, .data, .data, .sentinel, .sentinel] true (true, "4fa5311912544140f9e0d2c0f06d37679f36473bef35ee7646ff926e7b112b0c") true
  scopeLocals_holds (fun _ h => by cases h) (by kernel_rfl) (fun _ h => by cases h) scopeLocals_row_tie rfl ⟨rfl, rfl⟩ (by kernel_rfl) rfl
  (fun f fn hf hfn => by
    obtain rfl : f = 6 := Option.some.inj ((show Tryz.prog.funcNamed "portcullis/portcullislaw06.ScopeLocals" = some 6 by kernel_rfl).symm.trans hf) |>.symm
    obtain rfl : fn = Tryz.f6 := (Option.some.inj (Tryz.func6.symm.trans hfn)).symm
    exact ⟨by kernel_rfl, fun j t ht => by
     rw [Tryz.params6] at ht
     have hm : t ∈ [9] := by simpa using Array.mem_of_getElem? ht
     have hall : ([9].all fun u => !Tryz.prog.wantsStandIn u) = true := by kernel_rfl
     exact (show Tryz.prog.wantsStandIn t = false by simpa using List.all_eq_true.1 hall t hm)⟩)
  (by kernel_rfl)
end

end Go.Proofs.YtbckeljbpknbdaaGreatDoor
