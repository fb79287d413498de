/- The walk of FifoSteps. -/
import Derived.Test.YtadmacplpmahaaaIan
import Derived.Deep.CutRange
import Derived.Deep.RegionHeld3
set_option linter.unusedVariables false
set_option linter.unusedSimpArgs false
namespace Go.Proofs.Ytadmacplpmahaaa
open Go.RowKit

theorem drew_below (w : World) : Below w.heap.size w w.drew := ⟨rfl, rfl, rfl, Nat.le_refl _, fun _ _ => rfl⟩
theorem drewalloc_below (w : World) (o : Obj) : Below w.heap.size w (w.drew.alloc o) := (drew_below w).alloc (Nat.le_refl _) o
theorem allocdrew_below (w : World) (o : Obj) : Below w.heap.size w (w.alloc o).drew := ((Below.refl _ w).alloc (Nat.le_refl _) o).trans ⟨rfl, rfl, rfl, Nat.le_refl _, fun _ _ => rfl⟩
theorem below_set {B : Nat} {a w : World} (h : Below B a w) {p : Addr} (hp : B ≤ p.block) (u : Value) : Below B a (w.setCell p u) :=
  h.trans ⟨rfl, rfl, rfl, by simp, fun b hb => Below.heap_setCell w p u b (by omega)⟩
theorem below_set2 {B : Nat} {a w : World} (h : Below B a w) {z : Nat} (hp : B ≤ z) (u u' : Value) : Below B a ((w.setCell ⟨z, 0, none⟩ u).setCell ⟨z, 1, none⟩ u') := below_set (below_set h hp u) hp u'
/-- a row that may be written -/
def ArrN (wr : World) (A : Option Addr) (n : Nat) : Prop := ∀ k, k < n → ∃ ga cur, A = some ⟨ga, 0, none⟩ ∧ wr.heap[ga]? = some (.cells cur 3 (0, 0)) ∧ n ≤ cur.size
theorem OwnN.arr {w : World} {base : Nat} {A : Option Addr} {n c : Nat} {xs : List Int} (h : OwnN w base (.slice A n c) xs) : ArrN w A n := fun k hk => by
  rcases h.2 with ⟨h1, h2⟩ | ⟨g, cap, cur, hv, -, hg, h1, -, hcs, -⟩
  · cases h1; omega
  · cases hv
    exact ⟨g, cur, rfl, hg, by omega⟩
theorem ArrN.keep {w w' : World} {A : Option Addr} {n : Nat} (h : ArrN w A n) (hk : ∀ b, b < w.heap.size → w'.heap[b]? = w.heap[b]?) : ArrN w' A n := fun k hk2 => by
  obtain ⟨ga, cur, e, hr, hn⟩ := h k hk2
  exact ⟨ga, cur, e, (hk ga (heap_lt hr)).trans hr, hn⟩
theorem ArrN.set {w : World} {ga n : Nat} {cur : Array Value} (hr : w.heap[ga]? = some (.cells cur 3 (0, 0))) (hn : n ≤ cur.size) (k : Nat) (u : Value) : ArrN (w.setCell ⟨ga, k, none⟩ u) (some ⟨ga, 0, none⟩) n ∧ (∀ b, b ≠ ga → (w.setCell ⟨ga, k, none⟩ u).heap[b]? = w.heap[b]?) ∧ (w.setCell ⟨ga, k, none⟩ u).heap.size = w.heap.size := by
  refine ⟨fun k' hk' => ⟨ga, cur.setIfInBounds k u, rfl, ?_, by simpa using hn⟩, fun b hb => Below.heap_setCell w _ u b hb, by simp⟩
  rw [setCell_eq_setRow w ga k _ _ _ u hr]
  exact setRow_heap w ga _ _ _ _ hr
set_option maxRecDepth 100000 in
set_option maxHeartbeats 4000000 in
theorem steps_walk (w : World) (p : Int) (hp : In64 p) (zs : List Int) (v : Value) (hv : Scr KN w (· < w.heap.size) zs v) :
    Calls Try.prog 3 #[.int .i64 p, v] w fun e w' => e = .returned (.bool true) ∧ Below w.heap.size w w' := by
  obtain ⟨A, cz, rfl, hzc, hz63⟩ := hv.form
  have HAL := Lib.hid (alive_any w)
  have HV := Lib.hid hv
  have HIN := Lib.hid hp
  obtain ⟨n, hn⟩ : ∃ n, n = zs.length := ⟨_, rfl⟩
  rw [← hn] at hzc ⊢
  have HN := Lib.hid hn
  clear hv hn hp
  by_cases hbig : 300 < n
  · go_enter Try.func3, Try.ntmps3
    go_wp2_with fail
    refine HAL.out.mono ?_
    rintro e w1 ⟨rfl, hb1⟩
    have HB1 := Lib.hid hb1
    clear hb1
    go_wp2
    go_ret
    exact ⟨rfl, HB1.out⟩
  · have hsm : n ≤ 300 := by omega
    clear hbig
    go_enter Try.func3, Try.ntmps3
    go_wp2_with fail
    refine HAL.out.mono ?_
    rintro e w1 ⟨rfl, hb1⟩
    have HB1 := Lib.hid hb1
    have HNEW := Lib.hid (newQ_any w1 p HIN.out)
    clear hb1 HAL
    go_wp2_with fail
    refine HNEW.out.mono ?_
    rintro e w2 ⟨h, c, rfl, X0, hb2⟩
    obtain ⟨cap, hcap⟩ : ∃ cap, cap = capM p := ⟨_, rfl⟩
    rw [← hcap] at X0
    have HX0 := Lib.hid X0
    have HB2 := Lib.hid (HB1.out.trans (hb2.mono HB1.out.size))
    obtain ⟨base, hbase⟩ : ∃ base, base = w1.heap.size := ⟨_, rfl⟩
    rw [← hbase] at HX0
    have HBASE := Lib.hid (show base ≤ w2.heap.size ∧ w.heap.size ≤ base from ⟨by rw [hbase]; exact hb2.size, by rw [hbase]; exact HB1.out.size⟩)
    have hc1 := X0.lo
    have hc4 := X0.hi
    have HRN := rnew_any w2 p HIN.out
    unfold RNewQ at HRN
    rw [← hcap] at HRN
    have HRN := Lib.hid HRN
    clear X0 hb2 HNEW hbase HB1 hcap
    go_wp2_with fail
    refine HRN.out.mono ?_
    rintro e w3 ⟨rfl, hb3⟩
    have HST0 := Lib.hid (show Sp (w3.alloc (.cells #[.int .i64 (cap : Nat), .slice none 0 0] 27)) base h c cap w3.heap.size [] [] (.slice none 0 0) from
      ⟨HX0.out.below (hb3.alloc hb3.size _), by have := HBASE.out.1; have := hb3.size; simp; omega, by have := HBASE.out.1; have := hb3.size; omega, heap_alloc_new _ _, OwnN.nil _ _⟩)
    have HB3 := Lib.hid (HB2.out.trans ((hb3.mono HB2.out.size).alloc (by have := HB2.out.size; have := hb3.size; omega) (.cells #[.int .i64 (cap : Nat), .slice none 0 0] 27)))
    obtain ⟨V0, hV0⟩ : ∃ V, V = w3.alloc (.cells #[.int .i64 (cap : Nat), .slice none 0 0] 27) := ⟨_, rfl⟩
    obtain ⟨g, hg⟩ : ∃ g, g = w3.heap.size := ⟨_, rfl⟩
    rw [← hV0, ← hg] at HST0
    rw [← hV0] at HB3
    have HV0 := Lib.hid hV0
    have HG := Lib.hid hg
    clear hb3 HRN HB2 HX0 hV0 hg
    go_upto_region 9 with fail
    rw [← HV0.out, ← HG.out]
    clear HV0 HG
    go_wp2_with fail
    go_loopw [7] (fun i wr => ∃ (j : Nat) (W : List Int) (u : Value), j ≤ n ∧ i = .int .i64 (j : Nat) ∧ Hid (Sp wr base h c cap g W W u) ∧ Hid (Below w.heap.size w wr)) (fun i _ => n - (intOf i).toNat)
    case atStart => exact ⟨0, [], _, Nat.zero_le _, rfl, HST0, HB3⟩
    case round =>
      clear HST0 HB3
      obtain ⟨wo, rfl⟩ : ∃ wo : World, wo = wr := ⟨_, rfl⟩
      obtain ⟨j, W, u, hj, rfl, HST, HB⟩ := hrel
      by_cases hlt : j < n
      · have hjl : j < zs.length := by rw [← HN.out]; exact hlt
        obtain ⟨gz, off, rfl, hgz, k0, hin⟩ := HV.out.num j hjl
        have hc := (HB.out.cell (p := ⟨gz, off + j, none⟩) hgz).trans k0
        obtain ⟨x, hx⟩ : ∃ x, x = zs[j] := ⟨_, rfl⟩
        rw [← hx] at hc hin
        clear k0 hx hjl
        have hpar : (bits BinOp.and IntKind.i64 x 1 == 0) = true ∨ (bits BinOp.and IntKind.i64 x 1 == 0) = false := by cases (bits BinOp.and IntKind.i64 x 1 == 0) <;> simp
        have hfit := HST.out.q.fit
        have hgl := HST.out.glt
        have r0 := cell_of_row wo g 0 _ _ (0, 0) HST.out.row
        have r1 := cell_of_row wo g 1 _ _ (0, 0) HST.out.row
        simp at r0 r1
        obtain ⟨Au, cu, hu⟩ := HST.out.own.form
        obtain ⟨wl, hwl⟩ : ∃ wl, wl = W.length := ⟨_, rfl⟩
        rw [← hwl] at hu hfit
        have HWL := Lib.hid hwl
        subst hu
        clear hwl
        rcases hpar with hpar | hpar
        · have HRP := fun (wx : World) (hb : Below wo.heap.size wo wx) => rput_any (HST.out.own.below hb) HST.out.q.fit hc4 (Nat.le_trans HST.out.bs hb.size) x
          unfold RPut at HRP
          have HP := fun (wx : World) (q : QAt wx base h c cap W) => put_any q x
          unfold PutQ at HP
          obtain ⟨⟨W', ok⟩, hmk⟩ : ∃ r, r = putM cap W x := ⟨_, rfl⟩
          rw [← hmk] at HRP HP
          dsimp only at HRP HP
          have HRP := Lib.hid HRP
          have HP := Lib.hid HP
          clear hmk
          have HKS : Hid (∀ wx, Below wo.heap.size wo wx → wx.cell? ⟨g, 0, none⟩ = some (.int .i64 (cap : Nat)) ∧ wx.cell? ⟨g, 1, none⟩ = some (.slice Au wl cu) ∧ wx.cell? ⟨gz, off + j, none⟩ = some (.int .i64 x)) :=
            Lib.hid (fun wx hb => ⟨(hb.cell (p := ⟨g, 0, none⟩) hgl).trans r0, (hb.cell (p := ⟨g, 1, none⟩) hgl).trans r1, (hb.cell (p := ⟨gz, off + j, none⟩) (World.block_lt_of_cell? wo _ hc)).trans hc⟩)
          go_upto_region 13 with fail
          go_cut [8, 9] from 28 to 112 (fun v8 v9 wx => ∃ (z8 : Nat) (u' : Value), v8 = .pointer (some ⟨z8, 0, none⟩) ∧ v9 = .bool ok ∧ Hid (Below wo.heap.size wo wx) ∧ Hid (wx.heap[z8]? = some (.cells #[.int .i64 (cap : Nat), u'] 27 (0, 0))) ∧ Hid (OwnN wx base u' W'))
          case first =>
            go_region_held3 (fun w' => w'.cell? ⟨g, 0, none⟩ = some (.int .i64 (cap : Nat)) ∧ w'.cell? ⟨g, 1, none⟩ = some (.slice Au wl cu) ∧ w'.cell? ⟨gz, off + j, none⟩ = some (.int .i64 x))
              (first
              | with_reducible exact HKS.out _ (drew_below _)
              | with_reducible exact HKS.out _ (drewalloc_below _ _)
              | with_reducible exact HKS.out _ (allocdrew_below _ _)
              | with_reducible exact HKS.out _ LD.out
              | with_reducible exact HKS.out _ (Below.alloc LD.out LD.out.size _)
              | with_reducible exact HKS.out _ (below_set2 LD.out (Nat.le_refl _) _ _))
              (first
              | (go_at_call 9; go_loud ((with_reducible refine (HRP.out _ (drew_below _)).mono ?_); rintro e w4 ⟨u', rfl, ho, hb4⟩; obtain ⟨A5, c5, rfl⟩ := ho.form; have LD : Hid (Below wo.heap.size wo w4) := Lib.hid ((drew_below wo).trans hb4); have HO4 := Lib.hid ho; clear ho hb4))
              | (go_at_call 9; go_loud ((with_reducible refine (HRP.out _ (allocdrew_below _ _)).mono ?_); rintro e w4 ⟨u', rfl, ho, hb4⟩; obtain ⟨A5, c5, rfl⟩ := ho.form; have q1 := (hb4.block wo.heap.size (show wo.heap.size < (wo.alloc (.cells #[.int .i64 0, .slice none 0 0] 27)).heap.size by simp)).trans (show (wo.alloc (.cells #[.int .i64 0, .slice none 0 0] 27)).heap[wo.heap.size]? = _ from heap_alloc_new wo _); have y0 := cell_of_row w4 wo.heap.size 0 _ _ (0, 0) q1; have y1 := cell_of_row w4 wo.heap.size 1 _ _ (0, 0) q1; simp at y0 y1; have f1 := fun j => frozen_of_row w4 wo.heap.size j _ _ q1; have hzl4 : wo.heap.size < w4.heap.size := heap_lt q1; have HQ1 := Lib.hid q1; have LD : Hid (Below wo.heap.size wo w4) := Lib.hid ((allocdrew_below wo (.cells #[.int .i64 0, .slice none 0 0] 27)).trans (hb4.mono (by show wo.heap.size ≤ (wo.alloc (.cells #[.int .i64 0, .slice none 0 0] 27)).heap.size; simp))); have HO4 := Lib.hid ho; clear q1 ho hb4)))
            · go_wp2_with fail
              go_meet
              case rel => exact ⟨_, _, rfl, rfl, Lib.hid (LD.out.alloc LD.out.size _), Lib.hid (heap_alloc_new _ _), Lib.hid (HO4.out.alloc _)⟩
            · go_wp2_with fail
              go_meet
              case rel => exact ⟨_, _, rfl, rfl, Lib.hid (below_set2 LD.out (Nat.le_refl _) _ _), Lib.hid (two_row HQ1.out _ _ rfl).1, Lib.hid (HO4.out.keep fun b hb => (two_row HQ1.out _ _ rfl).2.1 b (fun e => HO4.out.box HQ1.out (by rw [hb, e])))⟩
          case rest =>
            obtain ⟨z8, u', rfl, rfl, HBC, HZ, HO⟩ := hcut
            obtain ⟨wx, rfl⟩ : ∃ wx : World, wx = wc := ⟨_, rfl⟩
            clear r0 r1 HKS HRP
            obtain ⟨A5, c5, hu5⟩ := HO.out.form
            subst hu5
            have y0 := cell_of_row wx z8 0 _ _ (0, 0) HZ.out
            have y1 := cell_of_row wx z8 1 _ _ (0, 0) HZ.out
            simp at y0 y1
            have HSTX := Lib.hid (HST.out.below HBC.out)
            have x0 := cell_of_row wx g 0 _ _ (0, 0) HSTX.out.row
            have x1 := cell_of_row wx g 1 _ _ (0, 0) HSTX.out.row
            simp at x0 x1
            have f1 := fun j => frozen_of_row wx g j _ _ HSTX.out.row
            have hx0 : g < wx.heap.size := HSTX.out.glt
            have hz8 : z8 < wx.heap.size := heap_lt HZ.out
            go_upto_region 15 with fail
            generalize hV : (wx.setCell ⟨g, 0, none⟩ (.int .i64 (cap : Nat))).setCell ⟨g, 1, none⟩ (.slice A5 W'.length c5) = V
            obtain ⟨s1, s2, s3⟩ := HST.out.put HBC.out HO.out hV
            have HSTV := Lib.hid s1
            have HBV := Lib.hid (HB.out.trans (s2.mono HBASE.out.2))
            have hcV : V.cell? ⟨gz, off + j, none⟩ = some (.int .i64 x) := (s2.cell (p := ⟨gz, off + j, none⟩) (by show gz < base; have := HBASE.out.2; omega)).trans hc
            clear hV s1 s2 s3 y0 y1 x0 x1 f1 hx0 hz8 HST HSTX HBC HZ HO HB hc hgl
            have HP := Lib.hid (HP.out V HSTV.out.q)
            go_wp2_with fail
            refine HP.out.mono ?_
            rintro e w5 ⟨rfl, X5, C5⟩
            try dsimp only at X5
            have HST5 := Lib.hid (HSTV.out.only X5 C5)
            have HB5 := Lib.hid (HBV.out.trans (C5.bel.mono HBASE.out.2))
            clear X5 C5 HSTV HBV hcV HP
            obtain ⟨nl, hnl⟩ : ∃ nl, nl = W'.length := ⟨_, rfl⟩
            rw [← hnl] at HST5 ⊢
            have HNL := Lib.hid hnl
            have hnl4 : nl ≤ cap := by rw [hnl]; exact HST5.out.q.fit
            have HA := Lib.hid (all_any HST5.out.q HST5.out.bs)
            clear hnl
            go_wp2_with fail
            refine HA.out.mono ?_
            rintro e w6 ⟨va, rfl, o6, q6, C6⟩
            obtain ⟨Ava, cva, hva⟩ := o6.form_n HNL.out.symm
            subst hva
            have HST6 := Lib.hid (HST5.out.only q6 C6)
            have HB6 := Lib.hid (HB5.out.trans (C6.bel.mono HBASE.out.2))
            have HAR6 := Lib.hid o6.arr
            have HSEP : Hid (∀ b, (Value.slice Ava nl cva).ownBlock = some b → base ≤ b ∧ ∀ b', b' = h ∨ b' = c ∨ b' = g ∨ (Value.slice A5 nl c5).ownBlock = some b' → b' ≠ b) := Lib.hid (fun b hb => by
              have h1 := (o6.lt hb).1
              refine ⟨Nat.le_trans HST5.out.bs h1, fun b' hb' => ?_⟩
              have h2 : b' < w5.heap.size := by
                rcases hb' with rfl | rfl | rfl | hb'
                · exact HST5.out.q.hlt
                · exact HST5.out.q.clt
                · exact HST5.out.glt
                · exact (HST5.out.own.lt hb').2
              omega)
            have HSAME : Hid (∀ m, Calls Try.prog 14 #[.slice Ava nl cva, .slice A5 nl c5] (w6.drewN m) fun e w'' => e = .returned (.bool true) ∧ ∃ k, w'' = w6.drewN k) := Lib.hid (fun m => Calls.quiet_of (same_any (o6.lie.drewN m) (HST6.out.own.lie.drewN m)))
            have HLEN := fun m => len_any (HST6.out.q.drewN m)
            have HROOM := fun m => room_any (HST6.out.q.drewN m)
            rw [← HNL.out] at HLEN HROOM
            have HLEN : Hid (∀ m, Calls Try.prog 15 #[.pointer (some ⟨h, 0, none⟩)] (w6.drewN m) fun e w'' => e = .returned (.int .i64 (nl : Nat)) ∧ ∃ k, w'' = w6.drewN k) := Lib.hid (fun m => Calls.quiet_of_same ((HLEN m).mono fun _ _ h => ⟨h.1, h.2.symm⟩))
            have HROOM : Hid (∀ m, Calls Try.prog 16 #[.pointer (some ⟨h, 0, none⟩)] (w6.drewN m) fun e w'' => e = .returned (.int .i64 ((cap : Int) - (nl : Nat))) ∧ ∃ k, w'' = w6.drewN k) := Lib.hid (fun m => Calls.quiet_of (HROOM m))
            have x0 := cell_of_row w6 g 0 _ _ (0, 0) HST6.out.row
            have x1 := cell_of_row w6 g 1 _ _ (0, 0) HST6.out.row
            simp at x0 x1
            have hgl6 : g < w6.heap.size := HST6.out.glt
            clear o6 q6 C6 HST5 HB5 HA
            go_upto_region 23 with fail
            go_quiet (first
              | with_reducible exact HSAME.out _
              | with_reducible exact HLEN.out _
              | with_reducible exact HROOM.out _)
            generalize hw7 : w6.drewN nq = w7
            have hb7 : Below w6.heap.size w6 w7 := by rw [← hw7]; exact (Chg.drawn none _ w6 nq).bel
            have HST7 := Lib.hid (HST6.out.below hb7)
            have HB7 := Lib.hid (HB6.out.trans (hb7.mono HB6.out.size))
            have HAR7 := Lib.hid (HAR6.out.keep hb7.block)
            clear hw7 hb7 HST6 HB6 HAR6 HSAME HLEN HROOM x0 x1 hgl6
            go_wp2_with fail
            go_loopw [16] (fun i wr => ∃ k : Nat, k ≤ nl ∧ i = .int .i64 (k : Nat) ∧ Hid (ArrN wr Ava nl) ∧ Hid (Sp wr base h c cap g W' W' (.slice A5 nl c5)) ∧ Hid (Below w.heap.size w wr)) (fun i _ => nl - (intOf i).toNat)
            case atStart => exact ⟨0, Nat.zero_le _, rfl, HAR7, HST7, HB7⟩
            case round =>
              clear HAR7 HST7 HB7
              obtain ⟨wi, rfl⟩ : ∃ wi : World, wi = wr := ⟨_, rfl⟩
              obtain ⟨k, hk, rfl, HAR, HST, HB⟩ := hrel
              by_cases hlk : k < nl
              · obtain ⟨ga, cur, rfl, hr, hcur⟩ := HAR.out k hlk
                have hkc : k < cur.size := by omega
                have d0 := cell_of_row wi ga k _ _ (0, 0) hr
                rw [Array.getElem?_eq_getElem hkc] at d0
                have f0 := fun j => frozen_of_row wi ga j _ _ hr
                have hgal : ga < wi.heap.size := heap_lt hr
                obtain ⟨hsb, hsep⟩ := HSEP.out ga rfl
                obtain ⟨t1, t2, t3⟩ := ArrN.set hr hcur k (.int .i64 99)
                have HT1 := Lib.hid t1
                have HST2 := Lib.hid (HST.out.keep (Nat.le_of_eq t3.symm) (fun b _ hb => t2 b (hsep b hb)))
                have HB2 := Lib.hid (HB.out.setCell (p := ⟨ga, k, none⟩) (by show w.heap.size ≤ ga; have := HBASE.out.2; omega) (.int .i64 99))
                clear t1 t2 t3 hsep hsb hr HST HB HAR hcur
                go_wp2_with fail
                go_roundw
                case rel => exact ⟨k + 1, by omega, by go_num, HT1, HST2, HB2⟩
                case measure => simp [intOf]; omega
              · obtain rfl : k = nl := by omega
                go_wp2_with fail
                go_roundw
                case rel => exact ⟨j + 1, W', _, by omega, by go_num, HST, HB⟩
                case measure => simp [intOf]; omega
        · have HRG := rget_any (cap := cap) HST.out.own (Nat.le_trans HST.out.q.fit hc4) HST.out.bs
          unfold RGet at HRG
          have HG := fun (wx : World) (q : QAt wx base h c cap W) => get_any q
          unfold GetQ at HG
          obtain ⟨⟨W', gx, ok⟩, hmk⟩ : ∃ r, r = getM W := ⟨_, rfl⟩
          rw [← hmk] at HRG HG
          dsimp only at HRG HG
          have HRG := Lib.hid HRG
          have HG := Lib.hid HG
          clear hmk
          go_wp2_with fail
          refine HRG.out.mono ?_
          rintro e w4 ⟨u', rfl, ho, hb4⟩
          obtain ⟨A5, c5, hu5⟩ := ho.form
          subst hu5
          have hbc := hb4.alloc hb4.size (.cells #[.int .i64 (cap : Nat), .slice A5 W'.length c5] 27)
          have hz := heap_alloc_new w4 (.cells #[.int .i64 (cap : Nat), .slice A5 W'.length c5] 27)
          have ho2 := ho.alloc (.cells #[.int .i64 (cap : Nat), .slice A5 W'.length c5] 27)
          clear ho hb4
          go_upto_region 18 with fail
          generalize w4.alloc (.cells #[.int .i64 (cap : Nat), .slice A5 W'.length c5] 27) = wx at hbc hz ho2 ⊢
          obtain ⟨z8, hz8e⟩ : ∃ z8, z8 = w4.heap.size := ⟨_, rfl⟩
          rw [← hz8e] at hz ⊢
          have HBC := Lib.hid hbc
          have HZ := Lib.hid hz
          have HO := Lib.hid ho2
          clear hbc hz ho2 hz8e r0 r1 HRG
          have y0 := cell_of_row wx z8 0 _ _ (0, 0) HZ.out
          have y1 := cell_of_row wx z8 1 _ _ (0, 0) HZ.out
          simp at y0 y1
          have HSTX := Lib.hid (HST.out.below HBC.out)
          have x0 := cell_of_row wx g 0 _ _ (0, 0) HSTX.out.row
          have x1 := cell_of_row wx g 1 _ _ (0, 0) HSTX.out.row
          simp at x0 x1
          have f1 := fun j => frozen_of_row wx g j _ _ HSTX.out.row
          have hx0 : g < wx.heap.size := HSTX.out.glt
          have hz8 : z8 < wx.heap.size := heap_lt HZ.out
          go_upto_region 19 with fail
          generalize hV : (wx.setCell ⟨g, 0, none⟩ (.int .i64 (cap : Nat))).setCell ⟨g, 1, none⟩ (.slice A5 W'.length c5) = V
          obtain ⟨s1, s2, s3⟩ := HST.out.put HBC.out HO.out hV
          have HSTV := Lib.hid s1
          have HBV := Lib.hid (HB.out.trans (s2.mono HBASE.out.2))
          have hcV : V.cell? ⟨gz, off + j, none⟩ = some (.int .i64 x) := (s2.cell (p := ⟨gz, off + j, none⟩) (by show gz < base; have := HBASE.out.2; omega)).trans hc
          clear hV s1 s2 s3 y0 y1 x0 x1 f1 hx0 hz8 HST HSTX HBC HZ HO HB hc hgl
          have HG := Lib.hid (HG.out V HSTV.out.q)
          go_wp2_with fail
          refine HG.out.mono ?_
          rintro e w5 ⟨rfl, X5, C5⟩
          try dsimp only at X5
          have HST5 := Lib.hid (HSTV.out.only X5 C5)
          have HB5 := Lib.hid (HBV.out.trans (C5.bel.mono HBASE.out.2))
          clear X5 C5 HSTV HBV hcV HG
          obtain ⟨nl, hnl⟩ : ∃ nl, nl = W'.length := ⟨_, rfl⟩
          rw [← hnl] at HST5 ⊢
          have HNL := Lib.hid hnl
          have hnl4 : nl ≤ cap := by rw [hnl]; exact HST5.out.q.fit
          have HA := Lib.hid (all_any HST5.out.q HST5.out.bs)
          clear hnl
          go_wp2_with fail
          refine HA.out.mono ?_
          rintro e w6 ⟨va, rfl, o6, q6, C6⟩
          obtain ⟨Ava, cva, hva⟩ := o6.form_n HNL.out.symm
          subst hva
          have HST6 := Lib.hid (HST5.out.only q6 C6)
          have HB6 := Lib.hid (HB5.out.trans (C6.bel.mono HBASE.out.2))
          have HAR6 := Lib.hid o6.arr
          have HSEP : Hid (∀ b, (Value.slice Ava nl cva).ownBlock = some b → base ≤ b ∧ ∀ b', b' = h ∨ b' = c ∨ b' = g ∨ (Value.slice A5 nl c5).ownBlock = some b' → b' ≠ b) := Lib.hid (fun b hb => by
            have h1 := (o6.lt hb).1
            refine ⟨Nat.le_trans HST5.out.bs h1, fun b' hb' => ?_⟩
            have h2 : b' < w5.heap.size := by
              rcases hb' with rfl | rfl | rfl | hb'
              · exact HST5.out.q.hlt
              · exact HST5.out.q.clt
              · exact HST5.out.glt
              · exact (HST5.out.own.lt hb').2
            omega)
          have HSAME : Hid (∀ m, Calls Try.prog 14 #[.slice Ava nl cva, .slice A5 nl c5] (w6.drewN m) fun e w'' => e = .returned (.bool true) ∧ ∃ k, w'' = w6.drewN k) := Lib.hid (fun m => Calls.quiet_of (same_any (o6.lie.drewN m) (HST6.out.own.lie.drewN m)))
          have HLEN := fun m => len_any (HST6.out.q.drewN m)
          have HROOM := fun m => room_any (HST6.out.q.drewN m)
          rw [← HNL.out] at HLEN HROOM
          have HLEN : Hid (∀ m, Calls Try.prog 15 #[.pointer (some ⟨h, 0, none⟩)] (w6.drewN m) fun e w'' => e = .returned (.int .i64 (nl : Nat)) ∧ ∃ k, w'' = w6.drewN k) := Lib.hid (fun m => Calls.quiet_of_same ((HLEN m).mono fun _ _ h => ⟨h.1, h.2.symm⟩))
          have HROOM : Hid (∀ m, Calls Try.prog 16 #[.pointer (some ⟨h, 0, none⟩)] (w6.drewN m) fun e w'' => e = .returned (.int .i64 ((cap : Int) - (nl : Nat))) ∧ ∃ k, w'' = w6.drewN k) := Lib.hid (fun m => Calls.quiet_of (HROOM m))
          have x0 := cell_of_row w6 g 0 _ _ (0, 0) HST6.out.row
          have x1 := cell_of_row w6 g 1 _ _ (0, 0) HST6.out.row
          simp at x0 x1
          have hgl6 : g < w6.heap.size := HST6.out.glt
          clear o6 q6 C6 HST5 HB5 HA
          go_upto_region 23 with fail
          go_quiet (first
            | with_reducible exact HSAME.out _
            | with_reducible exact HLEN.out _
            | with_reducible exact HROOM.out _)
          generalize hw7 : w6.drewN nq = w7
          have hb7 : Below w6.heap.size w6 w7 := by rw [← hw7]; exact (Chg.drawn none _ w6 nq).bel
          have HST7 := Lib.hid (HST6.out.below hb7)
          have HB7 := Lib.hid (HB6.out.trans (hb7.mono HB6.out.size))
          have HAR7 := Lib.hid (HAR6.out.keep hb7.block)
          clear hw7 hb7 HST6 HB6 HAR6 HSAME HLEN HROOM x0 x1 hgl6
          go_wp2_with fail
          go_loopw [16] (fun i wr => ∃ k : Nat, k ≤ nl ∧ i = .int .i64 (k : Nat) ∧ Hid (ArrN wr Ava nl) ∧ Hid (Sp wr base h c cap g W' W' (.slice A5 nl c5)) ∧ Hid (Below w.heap.size w wr)) (fun i _ => nl - (intOf i).toNat)
          case atStart => exact ⟨0, Nat.zero_le _, rfl, HAR7, HST7, HB7⟩
          case round =>
            clear HAR7 HST7 HB7
            obtain ⟨wi, rfl⟩ : ∃ wi : World, wi = wr := ⟨_, rfl⟩
            obtain ⟨k, hk, rfl, HAR, HST, HB⟩ := hrel
            by_cases hlk : k < nl
            · obtain ⟨ga, cur, rfl, hr, hcur⟩ := HAR.out k hlk
              have hkc : k < cur.size := by omega
              have d0 := cell_of_row wi ga k _ _ (0, 0) hr
              rw [Array.getElem?_eq_getElem hkc] at d0
              have f0 := fun j => frozen_of_row wi ga j _ _ hr
              have hgal : ga < wi.heap.size := heap_lt hr
              obtain ⟨hsb, hsep⟩ := HSEP.out ga rfl
              obtain ⟨t1, t2, t3⟩ := ArrN.set hr hcur k (.int .i64 99)
              have HT1 := Lib.hid t1
              have HST2 := Lib.hid (HST.out.keep (Nat.le_of_eq t3.symm) (fun b _ hb => t2 b (hsep b hb)))
              have HB2 := Lib.hid (HB.out.setCell (p := ⟨ga, k, none⟩) (by show w.heap.size ≤ ga; have := HBASE.out.2; omega) (.int .i64 99))
              clear t1 t2 t3 hsep hsb hr HST HB HAR hcur
              go_wp2_with fail
              go_roundw
              case rel => exact ⟨k + 1, by omega, by go_num, HT1, HST2, HB2⟩
              case measure => simp [intOf]; omega
            · obtain rfl : k = nl := by omega
              go_wp2_with fail
              go_roundw
              case rel => exact ⟨j + 1, W', _, by omega, by go_num, HST, HB⟩
              case measure => simp [intOf]; omega
      · obtain rfl : j = n := by omega
        go_wp2
        go_ret
        exact ⟨rfl, HB.out⟩

end Go.Proofs.Ytadmacplpmahaaa
