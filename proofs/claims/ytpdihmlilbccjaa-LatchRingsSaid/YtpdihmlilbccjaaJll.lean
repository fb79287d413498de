/- The walk of LatchRings. -/
import Derived.Test.YtpdihmlilbccjaaJlh
set_option linter.unusedVariables false
set_option linter.unusedSimpArgs false
namespace Go.Proofs.Ytpdihmlilbccjaa
open Go.RowKit

theorem Path.next {hs ws : List Int} {first t : Int} {ys : List Int} (h : Path hs ws first t ys) : ∀ i, i < ys.length → nxt hs ws (ys.getD i 0) = (ys[i + 1]?).getD first := by
  induction h with
  | last h1 h2 =>
    intro i hi
    obtain rfl : i = 0 := by simpa using hi
    simpa using h2
  | @cons t ys h1 h2 h3 ih =>
    intro i hi
    obtain ⟨zs, rfl⟩ := h3.ne
    cases i with
    | zero => simp
    | succ i =>
      have := ih i (by simpa using hi)
      simpa using this
/-- what the law asks of a ring -/
structure IsRing (hs ws R : List Int) : Prop where
  inr : ∀ i, i < R.length → 0 ≤ R.getD i 0 ∧ R.getD i 0 < ws.length
  next : ∀ i, i < R.length → holdM hs (ws.getD (R.getD i 0).toNat (-1)) = R.getD ((i + 1) % R.length) 0
  ge : ∀ i, i < R.length → R.getD 0 0 ≤ R.getD i 0
theorem isRing_of {hs ws r : List Int} {x : Int} (h : Path hs ws x x r) (hge : ∀ y ∈ r, x ≤ y) : IsRing hs ws r := by
  obtain ⟨zs, hz⟩ := h.ne
  have hmem : ∀ i, i < r.length → r.getD i 0 ∈ r := fun i hi => by
    rw [List.getD_eq_getElem?_getD, List.getElem?_eq_getElem hi]
    exact List.getElem_mem hi
  refine ⟨fun i hi => h.inr _ (hmem i hi), fun i hi => ?_, fun i hi => ?_⟩
  · have := h.next i hi
    unfold nxt at this
    rw [this]
    by_cases hl : i + 1 < r.length
    · rw [Nat.mod_eq_of_lt hl, List.getD_eq_getElem?_getD, List.getElem?_eq_getElem hl]
      rfl
    · rw [show (i + 1) % r.length = 0 from by rw [show i + 1 = r.length from by omega]; exact Nat.mod_self _, List.getElem?_eq_none (by omega), hz]
      rfl
  · have h0 : r.getD 0 0 = x := by rw [hz]; rfl
    rw [h0]
    exact hge _ (hmem i hi)
theorem ring_of (hs ws : List Int) : (ringM hs ws = [] ∧ ∀ x ys, ¬ Path hs ws x x ys) ∨ (0 < (ringM hs ws).length ∧ IsRing hs ws (ringM hs ws)) := by
  rcases ring_cases hs ws with ⟨h1, -, h3⟩ | ⟨x, r, h1, -, h3, h4⟩
  · exact .inl ⟨h1, h3⟩
  · refine .inr ?_
    rw [h1]
    obtain ⟨zs, hz⟩ := h3.ne
    exact ⟨by rw [hz]; simp, isRing_of h3 h4⟩
theorem ring_len (hs ws : List Int) : (ringM hs ws).length ≤ hs.length := by
  rcases ring_cases hs ws with ⟨h1, -, -⟩ | ⟨x, r, h1, -, h3, -⟩
  · rw [h1]; simp
  · rw [h1]; exact h3.le_locks

set_option maxRecDepth 100000 in
theorem rcopy_n {w : World} {xs : List Int} {v : Value} (h : LieN w v xs) (hn : xs.length ≤ 1000000) :
    Calls Try.prog 14 #[v] w (CopyN w xs) := by
  obtain ⟨A, c, rfl, hc, hM, hA⟩ := id h
  have HX : LieN (w.alloc (.cells #[] 3)) (.slice A xs.length c) xs := ⟨A, c, rfl, hc, hM, fun k hk => by
    obtain ⟨b, off, e, h0⟩ := hA k hk
    refine ⟨b, off, e, ?_⟩
    have hlt : b < w.heap.size := (World.block_lt_of_cell? w _ h0)
    exact (World.cell?_of_block (Below.heap_alloc _ _ _ hlt)).trans h0⟩
  have HX := Lib.hid HX
  have HN := Lib.hid hn
  have HO := Lib.hid (OwnN.lit w w.heap.size (Nat.le_refl _))
  clear h hA
  go_enter Try.func14, Try.ntmps14
  go_wp2_with (first
    | (at_builtin; go_loud (refine wpList_cp rfl _ _ rfl w.heap.size w.heap.size 0 rfl HO.out rfl HX.out HN.out (by simp) ?_; go_loud (intro v' w' ho hg))))
  go_ret
  exact ⟨_, rfl, ho, ((Below.refl _ w).alloc (Nat.le_refl _) _).grown hg (by simp) (fun k hk => by have e : some w.heap.size = some k := hk; injection e with e; omega)⟩

set_option maxRecDepth 100000 in
set_option maxHeartbeats 4000000 in
theorem rings_walk (w : World) (zs : List Cl) (v : Value) (hv : Scr KC w (· < w.heap.size) zs v) (ws : List Int) (u : Value) (hu : Scr KN w (· < w.heap.size) ws u) :
    Calls Try.prog 4 #[v, u] w fun e w' => e = .returned (.bool true) ∧ Below w.heap.size w w' := by
  obtain ⟨A, cz, rfl, hzc, hz63⟩ := hv.form
  obtain ⟨Au, cu, rfl, hmc, hm63⟩ := hu.form
  have HAL := Lib.hid (alive_any w)
  have HV := Lib.hid hv
  have HU := Lib.hid hu.lie
  obtain ⟨n, hn⟩ : ∃ n, n = zs.length := ⟨_, rfl⟩
  obtain ⟨m, hm⟩ : ∃ m, m = ws.length := ⟨_, rfl⟩
  rw [← hn] at hzc HV ⊢
  rw [← hm] at hmc HU ⊢
  have HN := Lib.hid hn
  have HM := Lib.hid hm
  clear hv hu hn hm
  by_cases hbig : 300 < n ∨ 100 < m
  · by_cases hb1 : 300 < n
    · go_enter Try.func4, Try.ntmps4
      go_wp2_with fail
      refine HAL.out.mono ?_
      rintro e w1 ⟨rfl, hb1⟩
      have HB1 := Lib.hid hb1
      clear hb1
      go_wp2
      go_ret
      exact ⟨rfl, HB1.out⟩
    · have hb2 : 100 < m := by omega
      go_enter Try.func4, Try.ntmps4
      go_wp2_with fail
      refine HAL.out.mono ?_
      rintro e w1 ⟨rfl, hb1⟩
      have HB1 := Lib.hid hb1
      clear hb1
      go_wp2
      go_ret
      exact ⟨rfl, HB1.out⟩
  · have hsm : n ≤ 300 := by omega
    have hsm2 : m ≤ 100 := by omega
    clear hbig
    go_enter Try.func4, Try.ntmps4
    go_wp2_with fail
    refine HAL.out.mono ?_
    rintro e w1 ⟨rfl, hb1⟩
    have HB1 := Lib.hid hb1
    have HNEW := Lib.hid (newLt_any w1 8 (by unfold In64; omega))
    clear hb1 HAL
    go_wp2_with fail
    refine HNEW.out.mono ?_
    rintro e w2 ⟨h, g, c, rfl, X0, hb2⟩
    have HX0 := Lib.hid X0
    have HB2 := Lib.hid (HB1.out.trans (hb2.mono HB1.out.size))
    have HBS := Lib.hid (show w.heap.size ≤ w1.heap.size from HB1.out.size)
    obtain ⟨B, hB⟩ : ∃ B, B = w1.heap.size := ⟨_, rfl⟩
    rw [← hB] at HX0 HBS
    clear X0 hb2 hB HNEW HB1
    go_wp2_with fail
    go_loopw [6] (fun vi wr => ∃ (j : Nat) (hs : List Int), j ≤ n ∧ vi = .int .i64 (j : Nat) ∧ Hid (LtAt wr B h g c hs) ∧ Hid (Below w.heap.size w wr)) (fun vi _ => n - (intOf vi).toNat)
    case atStart => exact ⟨0, _, Nat.zero_le _, rfl, HX0, HB2⟩
    case round =>
      obtain ⟨wo, rfl⟩ : ∃ wo : World, wo = wr := ⟨_, rfl⟩
      obtain ⟨j, hs, hj, rfl, HX, HB⟩ := hrel
      clear HX0 HB2
      by_cases hlt : j < n
      · have hjl : j < zs.length := by rw [← HN.out]; exact hlt
        obtain ⟨gz, off, rfl, hgz, k0, k1, k2, hin⟩ := HV.out.call j hjl
        have c1 := (HB.out.cell (p := ⟨gz, off + j * 3 + 1, none⟩) hgz).trans k1
        have c2 := (HB.out.cell (p := ⟨gz, off + j * 3 + 2, none⟩) hgz).trans k2
        obtain ⟨lk, hlk⟩ : ∃ x, x = zs[j].lock := ⟨_, rfl⟩
        obtain ⟨th, hth⟩ : ∃ x, x = zs[j].th := ⟨_, rfl⟩
        have hth64 := hin.th
        rw [← hlk] at c1
        rw [← hth] at c2 hth64
        have HXD : LtAt wo.drew B h g c hs := HX.out.keep rfl rfl
        have HPT := Lib.hid (take_any HXD lk th hth64)
        clear k0 k1 k2 hin hlk hth hth64 HXD hjl
        go_wp2_with fail
        go_still_tail 11, (by kernel_rfl)
        change wpList _ _ _ _ _ wo.drew
        go_wp2_with fail
        refine HPT.out.mono ?_
        rintro e w3 ⟨rfl, X3, C3⟩
        have HX3 := Lib.hid X3
        have HB3 := Lib.hid (HB.out.trans (((drew_below wo).mono HB.out.size).trans (C3.bel.mono HBS.out)))
        clear X3 C3 HPT HX HB c1 c2
        go_wp2_with fail
        go_roundw
        case rel => exact ⟨j + 1, _, by omega, by go_num, HX3, HB3⟩
        case measure => simp [intOf]; omega
      · obtain rfl : n = j := by omega
        clear hlt HV
        have HLU := Lib.hid (show LieN wo (.slice Au m cu) ws from HU.out.below HB.out)
        have HCP := Lib.hid (rcopy_n HLU.out (by have := HM.out; omega))
        go_wp2_with fail
        refine HCP.out.mono ?_
        rintro e w3 ⟨vc, rfl, oc, bc⟩
        have HRG := ring_any (HX.out.below bc) oc.lie (by have := HM.out; omega)
        unfold RingQ at HRG
        have HRL := Lib.hid (show (ringM hs ws).length ≤ 8 from Nat.le_trans (ring_len hs ws) HX.out.good.len)
        have HRC := Lib.hid (ring_of hs ws)
        obtain ⟨R, hR⟩ : ∃ R, R = ringM hs ws := ⟨_, rfl⟩
        rw [← hR] at HRG HRL HRC
        have HRG := Lib.hid HRG
        have HX3 := Lib.hid (HX.out.below bc)
        have HB3 := Lib.hid (HB.out.trans (bc.mono HB.out.size))
        clear hR oc bc HCP HX HB HLU
        go_wp2_with fail
        refine HRG.out.mono ?_
        rintro e V ⟨vr, rfl, ho, hb⟩
        obtain ⟨rl, hrl⟩ : ∃ rl, rl = R.length := ⟨_, rfl⟩
        obtain ⟨Ar, cr, rfl⟩ := ho.form_n hrl.symm
        have hr8 : rl ≤ 8 := by rw [hrl]; exact HRL.out
        have hac : rl ≤ cr ∧ cr ≤ 9223372036854775807 := by
          obtain ⟨A', c', e, h1, h2⟩ := ho.lie.form
          cases e
          omega
        have HRN := Lib.hid hrl
        have HO := Lib.hid ho
        have HXV := Lib.hid (HX3.out.below hb)
        have HBV := Lib.hid (HB3.out.trans (hb.mono HB3.out.size))
        clear HRG ho hb hrl HX3 HB3 HRL
        go_wp2_with fail
        go_loopw [8] (fun vi wr => ∃ i : Nat, i ≤ rl ∧ vi = .int .i64 (i : Nat) ∧ Hid (Below V.heap.size V wr)) (fun vi _ => rl - (intOf vi).toNat)
        case atStart => exact ⟨0, Nat.zero_le _, rfl, Lib.hid (Below.refl _ _)⟩
        case round =>
          obtain ⟨wo, rfl⟩ : ∃ wo : World, wo = wr := ⟨_, rfl⟩
          obtain ⟨i, hi, rfl, HB⟩ := hrel
          by_cases hlt : i < rl
          · have hiR : i < R.length := by rw [← HRN.out]; exact hlt
            have HIR : IsRing hs ws R := by
              rcases HRC.out with ⟨h1, -⟩ | ⟨-, h2⟩
              · rw [h1] at hiR; simp at hiR
              · exact h2
            obtain ⟨gr, cr', hvr, hgr1, hgr2⟩ := HO.out.some_ (by intro e; rw [e] at hiR; simp at hiR)
            rw [← HRN.out] at hvr
            cases hvr
            have hq : (i + 1) % rl < rl := Nat.mod_lt _ (by omega)
            have hqR : (i + 1) % rl < R.length := by rw [← HRN.out]; exact hq
            have d0 := (HB.out.cell (p := ⟨gr, i, none⟩) hgr2).trans (HO.out.at hiR)
            have d1 := (HB.out.cell (p := ⟨gr, (i + 1) % rl, none⟩) hgr2).trans (HO.out.at hqR)
            have d2 := (HB.out.cell (p := ⟨gr, 0, none⟩) hgr2).trans (HO.out.at (k := 0) (by omega))
            have hgrl : gr < wo.heap.size := Nat.lt_of_lt_of_le hgr2 HB.out.size
            have e0 : R.getD i 0 = R[i] := by rw [List.getD_eq_getElem?_getD, List.getElem?_eq_getElem hiR]; rfl
            have e1 : R.getD ((i + 1) % rl) 0 = R[(i + 1) % rl] := by rw [List.getD_eq_getElem?_getD, List.getElem?_eq_getElem hqR]; rfl
            have e2 : R.getD 0 0 = R[0] := by rw [List.getD_eq_getElem?_getD, List.getElem?_eq_getElem (by omega)]; rfl
            have q0 := HIR.inr i hiR
            have q1 := HIR.next i hiR
            have q2 := HIR.ge i hiR
            rw [← HRN.out] at q1
            rw [e0, ← HM.out] at q0
            rw [e0, e1] at q1
            rw [e0, e2] at q2
            obtain ⟨x, hx⟩ : ∃ x, x = R[i] := ⟨_, rfl⟩
            obtain ⟨y, hy⟩ : ∃ y, y = R[(i + 1) % rl] := ⟨_, rfl⟩
            obtain ⟨z, hz⟩ : ∃ z, z = R[0] := ⟨_, rfl⟩
            rw [← hx] at q0 q1 q2 d0
            rw [← hy] at q1 d1
            rw [← hz] at q2 d2
            obtain ⟨xn, rfl⟩ : ∃ xn : Nat, x = xn := ⟨x.toNat, by omega⟩
            have hxm : xn < m := by omega
            have hxw : xn < ws.length := by rw [← HM.out]; exact hxm
            obtain ⟨b, off, rfl, hcell⟩ := (HU.out.below HBV.out).at hxw
            have hbl : b < V.heap.size := World.block_lt_of_cell? V _ hcell
            have hcl := (HB.out.cell (p := ⟨b, off + xn, none⟩) hbl).trans hcell
            have hblo : b < wo.heap.size := Nat.lt_of_lt_of_le hbl HB.out.size
            rw [Int.toNat_natCast, List.getD_eq_getElem?_getD, List.getElem?_eq_getElem hxw, Option.getD_some] at q1
            obtain ⟨l, hl⟩ : ∃ l, l = ws[xn] := ⟨_, rfl⟩
            rw [← hl] at q1 hcl
            have HH := fun m => holder_any ((HXV.out.below HB.out).drewN m) l
            rw [q1] at HH
            have HHQ : Hid (∀ m, Calls Try.prog 15 #[.pointer (some ⟨h, 0, none⟩), .int .i64 l] (wo.drewN m) fun e w'' => e = .returned (.int .i64 y) ∧ ∃ k, w'' = wo.drewN k) := Lib.hid (fun m => Calls.quiet_of_same ((HH m).mono fun _ _ h => ⟨h.1, h.2.symm⟩))
            have hqi : 0 ≤ ((i : Int) + 1) % (rl : Int) ∧ ((i : Int) + 1) % (rl : Int) < (rl : Int) := ⟨Int.emod_nonneg _ (by omega), Int.emod_lt_of_pos _ (by omega)⟩
            have hrp : 0 < rl := by omega
            have hz0 : decide ((xn : Int) < z) = false := decide_eq_false (by omega)
            have hm0 : decide (m ≤ xn) = false := decide_eq_false (by omega)
            have hrl0 : ¬ (rl : Int) = 0 := by omega
            clear HIR hiR hqR e0 e1 e2 q0 q1 q2 hx hy hz hl HH hcell hxw hbl
            go_upto_region 17 with fail
            go_quiet (first
              | with_reducible exact HHQ.out _)
            generalize hwq : wo.drewN _ = wq
            have HBQ : Hid (Below V.heap.size V wq) := Lib.hid (by rw [← hwq]; exact HB.out.trans ((Chg.drawn none _ wo _).bel.mono HB.out.size))
            clear hwq HHQ d0 d1 d2 hcl HB
            go_wp2_with fail
            go_roundw
            case rel => exact ⟨i + 1, by omega, by go_num, HBQ⟩
            case measure => simp [intOf]; omega
          · obtain rfl : rl = i := by omega
            by_cases hr0 : 0 < rl
            · go_wp2_with fail
              go_ret
              exact ⟨rfl, HBV.out.trans (HB.out.mono HBV.out.size)⟩
            · have HNO : Hid (∀ x ys, ¬ Path hs ws x x ys) := Lib.hid (by
                rcases HRC.out with ⟨-, h2⟩ | ⟨h1, -⟩
                · exact h2
                · have := HRN.out; omega)
              have HBV2 := Lib.hid (HBV.out.trans (HB.out.mono HBV.out.size))
              have HXW := Lib.hid (HXV.out.below HB.out)
              have HUW := Lib.hid (show LieN wo (.slice Au m cu) ws from (HU.out.below HBV.out).below HB.out)
              clear HRC HRN HO HB HXV HBV hlt
              go_wp2_with fail
              go_loopw [10] (fun vi wr => ∃ i : Nat, i ≤ m ∧ vi = .int .i64 (i : Nat) ∧ Hid (Below wo.heap.size wo wr)) (fun vi _ => m - (intOf vi).toNat)
              case atStart => exact ⟨0, Nat.zero_le _, rfl, Lib.hid (Below.refl _ _)⟩
              case round =>
                obtain ⟨i, hi, rfl, HW⟩ := hrel
                obtain ⟨wa, rfl⟩ : ∃ wa : World, wa = wr := ⟨_, rfl⟩
                by_cases hlt : i < m
                · go_wp2_with fail
                  go_loopw [11, 12] (fun va vk wr => ∃ t k : Nat, k ≤ m + 1 ∧ vk = .int .i64 (k : Nat) ∧ va = .int .i64 (t : Nat) ∧ t < m ∧ Hid (∃ a, Reach hs ws a (i : Int) (t : Int)) ∧ Hid (Below wo.heap.size wo wr)) (fun _ vk _ => m + 1 - (intOf vk).toNat)
                  case atStart => exact ⟨i, 0, Nat.zero_le _, rfl, rfl, hlt, Lib.hid ⟨0, rfl⟩, HW⟩
                  case round =>
                    clear HW
                    obtain ⟨wb, rfl⟩ : ∃ wb : World, wb = wr := ⟨_, rfl⟩
                    obtain ⟨t, k, hk, rfl, rfl, ht, HRE, HW⟩ := hrel
                    by_cases hkm : k ≤ m
                    · have htw : t < ws.length := by rw [← HM.out]; exact ht
                      obtain ⟨b, off, rfl, hcell⟩ := (HUW.out.below HW.out).at htw
                      have hbl : b < wb.heap.size := World.block_lt_of_cell? wb _ hcell
                      have HNX : Hid (nxt hs ws (t : Int) = holdM hs ws[t]) := Lib.hid (by unfold nxt; rw [Int.toNat_natCast, List.getD_eq_getElem?_getD, List.getElem?_eq_getElem htw]; rfl)
                      obtain ⟨l, hl⟩ : ∃ l, l = ws[t] := ⟨_, rfl⟩
                      rw [← hl] at hcell HNX
                      have HH := Lib.hid (holder_any (HXW.out.below HW.out) l)
                      obtain ⟨y, hy⟩ : ∃ y, y = holdM hs l := ⟨_, rfl⟩
                      rw [← hy] at HH HNX
                      have HRY : Hid (∃ a, Reach hs ws (a + 1) (i : Int) y) := Lib.hid (by
                        obtain ⟨a, ha⟩ := HRE.out
                        refine ⟨a, ha.add (b := 1) ⟨⟨by omega, by omega⟩, ?_⟩⟩
                        exact HNX.out)
                      have hyi : ¬ y = (i : Int) := fun e => by
                        obtain ⟨a, ha⟩ := HRY.out
                        rw [e] at ha
                        obtain ⟨ys, hys⟩ := ha.path
                        exact HNO.out _ _ hys
                      clear hl hy htw HNX HRE
                      go_wp2_with fail
                      refine HH.out.mono ?_
                      rintro e w5 ⟨rfl, rfl⟩
                      clear HH
                      by_cases hy0 : y < 0
                      · clear HRY
                        go_wp2_with fail
                        go_roundw
                        case rel => exact ⟨i + 1, by omega, by go_num, HW⟩
                        case measure => simp [intOf]; omega
                      · by_cases hym : (m : Int) ≤ y
                        · clear HRY
                          go_wp2_with fail
                          go_roundw
                          case rel => exact ⟨i + 1, by omega, by go_num, HW⟩
                          case measure => simp [intOf]; omega
                        · obtain ⟨yn, rfl⟩ : ∃ yn : Nat, y = yn := ⟨y.toNat, by omega⟩
                          have hyn : ¬ m ≤ yn := by omega
                          clear hy0 hym
                          go_wp2_with fail
                          go_roundw
                          case rel => exact ⟨yn, k + 1, by omega, by go_num, rfl, by omega, Lib.hid (by obtain ⟨a, ha⟩ := HRY.out; exact ⟨_, ha⟩), HW⟩
                          case measure => simp [intOf]; omega
                    · go_wp2_with fail
                      go_roundw
                      case rel => exact ⟨i + 1, by omega, by go_num, HW⟩
                      case measure => simp [intOf]; omega
                · obtain rfl : m = i := by omega
                  go_wp2
                  go_ret
                  exact ⟨rfl, HBV2.out.trans (HW.out.mono HBV2.out.size)⟩

end Go.Proofs.Ytpdihmlilbccjaa
