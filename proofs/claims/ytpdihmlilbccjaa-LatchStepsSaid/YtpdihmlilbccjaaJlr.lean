/- The walk of LatchSteps. -/
import Derived.Test.YtpdihmlilbccjaaJlq
import Derived.Deep.RegionHeld3
import Derived.Deep.Cut
set_option linter.unusedVariables false
set_option linter.unusedSimpArgs false
namespace Go.Proofs.Ytpdihmlilbccjaa
open Go.RowKit

/-- both tables in one world -/
structure StAt (w : World) (B h g c zm : Nat) (hs hr : List Int) (vm : Value) : Prop where
  X : LtAt w B h g c hs
  row : w.heap[zm]? = some (.cells #[vm] 28 (0, 0))
  own : OwnN w B vm hr
  apart : ∀ b, vm.ownBlock = some b → b ≠ g
  hz : B ≤ zm
theorem OwnN.not_box {w : World} {base z : Nat} {v u : Value} {xs : List Int} (h : OwnN w base v xs) (hr : w.heap[z]? = some (.cells #[u] 28 (0, 0))) : ∀ b, v.ownBlock = some b → b ≠ z := by
  rintro b hb rfl
  rcases h.2 with ⟨rfl, h2⟩ | ⟨g, cap, cur, rfl, -, hg, -⟩
  · cases hb
  · have e : g = b := by simpa [Value.ownBlock] using hb
    subst e
    rw [hg] at hr
    simp at hr
theorem StAt.zg {w : World} {B h g c zm : Nat} {hs hr : List Int} {vm : Value} (T : StAt w B h g c zm hs hr vm) : g ≠ zm := T.X.own.not_box T.row g rfl
theorem StAt.zh {w : World} {B h g c zm : Nat} {hs hr : List Int} {vm : Value} (T : StAt w B h g c zm hs hr vm) : h ≠ zm := by
  rintro rfl
  have := T.row
  rw [T.X.row] at this
  simp at this
theorem StAt.below {w w' : World} {B h g c zm : Nat} {hs hr : List Int} {vm : Value} (T : StAt w B h g c zm hs hr vm) (hb : Below w.heap.size w w') : StAt w' B h g c zm hs hr vm :=
  ⟨T.X.below hb, (hb.block zm (heap_lt T.row)).trans T.row, T.own.below hb, T.apart, T.hz⟩
theorem StAt.one {w w' : World} {B h g c zm : Nat} {hs hr hs' : List Int} {vm : Value} (T : StAt w B h g c zm hs hr vm) (X' : LtAt w' B h g c hs') (C : Chg (some g) B w w') : StAt w' B h g c zm hs' hr vm :=
  ⟨X', (C.blk zm (heap_lt T.row) (fun e => T.zg (by injection e))).trans T.row, T.own.keep fun b hb => C.blk b (T.own.lt hb).2 (fun e => T.apart b hb (by injection e with e; exact e.symm)), T.apart, T.hz⟩
theorem StAt.two {w w' W : World} {B h g c zm : Nat} {hs hr hr' : List Int} {vm v' : Value} (T : StAt w B h g c zm hs hr vm) (o : OwnN w' B v' hr') (hb : Below w.heap.size w w') (ha : ∀ b, v'.ownBlock = some b → vm.ownBlock = some b ∨ w.heap.size ≤ b)
    (hW : w'.setCell ⟨zm, 0, none⟩ v' = W) : StAt W B h g c zm hs hr' v' ∧ Below B w W := by
  have hr0 := (hb.block zm (heap_lt T.row)).trans T.row
  obtain ⟨g1, g2, g3, g4, g5⟩ := one_fin hr0 T.hz (hb.mono (show B ≤ w.heap.size from Nat.le_trans T.X.hh (Nat.le_of_lt T.X.hlt))) v' hW
  refine ⟨⟨(T.X.below hb).keep (g4 h T.zh) (g4 g T.zg), g2, o.keep fun b hb2 => g4 b (o.not_box hr0 b hb2), fun b hb2 => ?_, T.hz⟩, g1⟩
  rcases ha b hb2 with h1 | h1
  · exact T.apart b h1
  · have := T.X.glt; omega
/-- what is answered as a list -/
def LstQ (U : World) (L : List Int) (n : Nat) (wx : World) (e : Ending) (w' : World) : Prop :=
  ∃ A cc, e = .returned (.slice A n cc) ∧ LieN w' (.slice A n cc) L ∧ Below wx.heap.size wx w' ∧ Below U.heap.size U w'
theorem lstQ {U wx : World} {L : List Int} {n : Nat} (hn : n = L.length) (hU : Below U.heap.size U wx) {e : Ending} {w' : World} (h : CopyN wx L e w') : LstQ U L n wx e w' := by
  obtain ⟨v, rfl, ho, hb⟩ := h
  obtain ⟨A, cc, rfl⟩ := ho.form_n hn.symm
  exact ⟨A, cc, rfl, ho.lie, hb, hU.trans (hb.mono hU.size)⟩
theorem drew_bel {U wx : World} (h : Below U.heap.size U wx) : Below U.heap.size U wx.drew := h.trans ⟨rfl, rfl, rfl, Nat.le_refl _, fun _ _ => rfl⟩

theorem same_bel {U a b : World} {k : Nat} (h : Below U.heap.size U a) (e : b = a.drewN k) : Below U.heap.size U b := by
  rw [e]
  exact h.trans ((Chg.drawn none _ a k).bel.mono h.size)
theorem ring_len' (hs ws : List Int) : (ringM hs ws).length ≤ hs.length := by
  rcases ring_cases hs ws with ⟨h1, -, -⟩ | ⟨x, r, h1, -, h3, -⟩
  · rw [h1]; simp
  · rw [h1]; exact h3.le_locks

set_option maxRecDepth 100000 in
set_option maxHeartbeats 16000000 in
theorem steps_walk (w : World) (p : Int) (hp : In64 p) (zs : List Cl) (v : Value) (hv : Scr KC w (· < w.heap.size) zs v) (ws : List Int) (u : Value) (hu : Scr KN w (· < w.heap.size) ws u) :
    Calls Try.prog 3 #[.int .i64 p, v, u] w fun e w' => e = .returned (.bool true) ∧ Below w.heap.size w w' := by
  obtain ⟨A, cz, rfl, hzc, hz63⟩ := hv.form
  obtain ⟨Au, cu, rfl, hmc, hm63⟩ := hu.form
  have HAL := Lib.hid (alive_any w)
  have HV := Lib.hid hv
  have HU := Lib.hid hu.lie
  have HIN := Lib.hid hp
  obtain ⟨n, hn⟩ : ∃ n, n = zs.length := ⟨_, rfl⟩
  obtain ⟨m, hm⟩ : ∃ m, m = ws.length := ⟨_, rfl⟩
  rw [← hn] at hzc HV ⊢
  rw [← hm] at hmc HU ⊢
  have HN := Lib.hid hn
  have HM := Lib.hid hm
  clear hv hu hn hm hp
  by_cases hbig : 300 < n ∨ 100 < m
  · by_cases hb1 : 300 < n
    · go_enter Try.func3, Try.ntmps3
      go_wp2_with fail
      refine HAL.out.mono ?_
      rintro e w1 ⟨rfl, hb1⟩
      have HB1 := Lib.hid hb1
      clear hb1
      go_wp2
      go_ret
      exact ⟨rfl, HB1.out⟩
    · have hb2 : 100 < m := by omega
      go_enter Try.func3, Try.ntmps3
      go_wp2_with fail
      refine HAL.out.mono ?_
      rintro e w1 ⟨rfl, hb1⟩
      have HB1 := Lib.hid hb1
      clear hb1
      go_wp2
      go_ret
      exact ⟨rfl, HB1.out⟩
  · have hsm : n ≤ 300 := by omega
    have hsm2 : m ≤ 100 := by omega
    clear hbig
    go_enter Try.func3, Try.ntmps3
    go_wp2_with fail
    refine HAL.out.mono ?_
    rintro e w1 ⟨rfl, hb1⟩
    have HB1 := Lib.hid hb1
    have HNEW := Lib.hid (newLt_any w1 p HIN.out)
    clear hb1 HAL
    go_wp2_with fail
    refine HNEW.out.mono ?_
    rintro e w2 ⟨h, g, c, rfl, X0, hb2⟩
    have HX0 := Lib.hid X0
    have HB2 := Lib.hid (HB1.out.trans (hb2.mono HB1.out.size))
    have HBS := Lib.hid (show w.heap.size ≤ w1.heap.size ∧ w1.heap.size ≤ w2.heap.size from ⟨HB1.out.size, hb2.size⟩)
    obtain ⟨B, hB⟩ : ∃ B, B = w1.heap.size := ⟨_, rfl⟩
    rw [← hB] at HX0 HBS
    have HRN := Lib.hid (rnew_any w2 p HIN.out)
    clear X0 hb2 hB HNEW HB1
    go_wp2_with fail
    refine HRN.out.mono ?_
    rintro e w3 ⟨vm, rfl, om, hb3⟩
    have HST0 := Lib.hid (show StAt (w3.alloc (.cells #[vm] 28)) B h g c w3.heap.size (newM p) (newM p) vm from
      ⟨HX0.out.below (hb3.alloc hb3.size _), heap_alloc_new _ _, (om.mono HBS.out.2).alloc _, fun b hb => by have := (om.lt hb).1; have := HX0.out.glt; omega, Nat.le_trans HBS.out.2 hb3.size⟩)
    have HB3 := Lib.hid ((HB2.out.trans (hb3.mono HB2.out.size)).alloc (Nat.le_trans HB2.out.size hb3.size) (.cells #[vm] 28))
    obtain ⟨Am, cm, hvm⟩ := om.form
    have HBW : Hid (w.heap.size ≤ B) := Lib.hid HBS.out.1
    clear om hb3 HRN HX0 HB2 HBS
    subst hvm
    go_wp2_with fail
    obtain ⟨zm, hzm⟩ : ∃ zm, zm = w3.heap.size := ⟨_, rfl⟩
    rw [← hzm] at HST0 ⊢
    clear hzm
    go_loopw [9] (fun vi wr => ∃ (j : Nat) (hs : List Int) (vm : Value), j ≤ n ∧ vi = .int .i64 (j : Nat) ∧ Hid (StAt wr B h g c zm hs hs vm) ∧ Hid (Below w.heap.size w wr)) (fun vi _ => n - (intOf vi).toNat)
    case atStart => exact ⟨0, _, _, Nat.zero_le _, rfl, HST0, HB3⟩
    case round =>
      clear HST0 HB3
      obtain ⟨wo, rfl⟩ : ∃ wo : World, wo = wr := ⟨_, rfl⟩
      obtain ⟨j, hs, vm, hj, rfl, HST, HB⟩ := hrel
      by_cases hlt : j < n
      · have hjl : j < zs.length := by rw [← HN.out]; exact hlt
        obtain ⟨gz, off, rfl, hgz, k0, k1, k2, hin⟩ := HV.out.call j hjl
        have c0 := (HB.out.cell (p := ⟨gz, off + j * 3, none⟩) hgz).trans k0
        have c1 := (HB.out.cell (p := ⟨gz, off + j * 3 + 1, none⟩) hgz).trans k1
        have c2 := (HB.out.cell (p := ⟨gz, off + j * 3 + 2, none⟩) hgz).trans k2
        have hgo : gz < wo.heap.size := Nat.lt_of_lt_of_le hgz HB.out.size
        obtain ⟨what, hwhat⟩ : ∃ x, x = zs[j].what := ⟨_, rfl⟩
        obtain ⟨lk, hlk⟩ : ∃ x, x = zs[j].lock := ⟨_, rfl⟩
        obtain ⟨th, hth⟩ : ∃ x, x = zs[j].th := ⟨_, rfl⟩
        have HTH := Lib.hid hin.th
        rw [← hwhat] at c0
        rw [← hlk] at c1
        rw [← hth] at c2 HTH
        clear k0 k1 k2 hin hwhat hlk hth hjl
        go_upto_region 13 with fail
        generalize hV : wo.alloc (.cells #[.int .i64 what, .int .i64 lk, .int .i64 th] 31) = V
        obtain ⟨y, hy⟩ : ∃ y, y = wo.heap.size := ⟨_, rfl⟩
        have hVr : V.heap[y]? = some (.cells #[.int .i64 what, .int .i64 lk, .int .i64 th] 31 (0, 0)) := by rw [← hV, hy]; exact heap_alloc_new _ _
        have hVb : Below wo.heap.size wo V := by rw [← hV]; exact (Below.refl _ _).alloc (Nat.le_refl _) _
        rw [← hy]
        have y0 := cell_of_row V y 0 _ _ _ hVr
        have y1 := cell_of_row V y 1 _ _ _ hVr
        have y2 := cell_of_row V y 2 _ _ _ hVr
        simp at y0 y1 y2
        have hyl : y < V.heap.size := heap_lt hVr
        have HYG : Hid (y ≠ g ∧ y ≠ zm) := Lib.hid ⟨by have := HST.out.X.glt; omega, by have := heap_lt HST.out.row; omega⟩
        have HYD := Lib.hid (show V.cell? ⟨y, 1, none⟩ = some (.int .i64 lk) ∧ V.cell? ⟨y, 2, none⟩ = some (.int .i64 th) ∧ y < V.heap.size from ⟨y1, y2, hyl⟩)
        have HST := Lib.hid (HST.out.below hVb)
        have HB := Lib.hid (HB.out.trans (hVb.mono HB.out.size))
        clear hV hy hVr hVb c0 c1 c2 hgo
        obtain ⟨Am, cm, hvm⟩ := HST.out.own.form
        subst hvm
        obtain ⟨nh, hnh⟩ : ∃ nh, nh = hs.length := ⟨_, rfl⟩
        have HNH := Lib.hid hnh
        have hnh8 : nh ≤ 8 := by rw [hnh]; exact HST.out.X.good.len
        rw [← hnh] at HST
        clear hnh
        by_cases hw1 : what = 1
        · rw [hw1] at y0
          clear hw1
          have HP := take_any HST.out.X lk th HTH.out
          unfold TakeQ at HP
          have HRP := fun (wx : World) (o : OwnN wx B (.slice Am nh cm) hs) (hb : B ≤ wx.heap.size) => rtake_any o HST.out.X.good hb lk th HTH.out
          unfold RStepQ at HRP
          have HLEN := Lib.hid (take_len hs lk th)
          have HGD := Lib.hid HST.out.X.good
          obtain ⟨⟨hs', ok⟩, hmk⟩ : ∃ r, r = takeM hs lk th := ⟨_, rfl⟩
          rw [← hmk] at HP HRP HLEN
          dsimp only at HP HRP HLEN
          have HP := Lib.hid HP
          have HRP := Lib.hid HRP
          have HNH2 : Hid (nh = hs'.length) := Lib.hid (by rw [HLEN.out]; exact HNH.out)
          clear hmk
          go_wp2_with fail
          refine HP.out.mono ?_
          rintro e w4 ⟨rfl, X4, C4⟩
          have HST4 := Lib.hid (HST.out.one X4 C4)
          have HB4 := Lib.hid (HB.out.trans (C4.bel.mono HBW.out))
          have yg : (some g : Option Nat) ≠ some y := fun e => HYG.out.1 (by injection e with e; exact e.symm)
          have y1' := (World.cell?_of_block (a := ⟨y, 1, none⟩) (C4.blk y hyl yg)).trans y1
          have y2' := (World.cell?_of_block (a := ⟨y, 2, none⟩) (C4.blk y hyl yg)).trans y2
          have hyl' : y < w4.heap.size := Nat.lt_of_lt_of_le hyl C4.size
          have HYD4 := Lib.hid (show w4.cell? ⟨y, 1, none⟩ = some (.int .i64 lk) ∧ w4.cell? ⟨y, 2, none⟩ = some (.int .i64 th) ∧ y < w4.heap.size from ⟨y1', y2', hyl'⟩)
          have zc := cell_of_row w4 zm 0 _ _ _ HST4.out.row
          simp at zc
          have hzl : zm < w4.heap.size := heap_lt HST4.out.row
          have HRP4 := Lib.hid (HRP.out w4 HST4.out.own (Nat.le_trans HST4.out.X.hh (Nat.le_of_lt HST4.out.X.hlt)))
          clear X4 C4 y0 y1 y2 hyl HP HRP HST HB HYD
          go_wp2_with fail
          refine HRP4.out.mono ?_
          rintro e w5 ⟨v5, rfl, o5, b5, a5⟩
          obtain ⟨A5, c5, hv5⟩ := o5.form_n HNH2.out.symm
          subst hv5
          have q0 := (b5.block zm hzl).trans HST4.out.row
          have zc5 := cell_of_row w5 zm 0 _ _ _ q0
          simp at zc5
          have fz := fun j => frozen_of_row w5 zm j _ _ q0
          have hzl5 : zm < w5.heap.size := heap_lt q0
          have HO5 := Lib.hid o5
          have HB5 := Lib.hid b5
          have HA5 := Lib.hid a5
          clear o5 b5 a5 q0 HRP4 y1' y2' hyl' zc hzl yg
          go_upto_region 22 with fail
          generalize hW : w5.setCell ⟨zm, 0, none⟩ (.slice A5 nh c5) = W
          obtain ⟨t1, t2⟩ := HST4.out.two HO5.out HB5.out HA5.out hW
          have HSTW := Lib.hid t1
          have HBW2 := Lib.hid (HB4.out.trans (t2.mono HBW.out))
          have HYU := Lib.hid (show W.cell? ⟨y, 1, none⟩ = some (.int .i64 lk) ∧ W.cell? ⟨y, 2, none⟩ = some (.int .i64 th) ∧ y < W.heap.size from by
            have e1 : W.heap[y]? = w4.heap[y]? := (show W.heap[y]? = w5.heap[y]? from by rw [← hW]; exact Below.heap_setCell w5 _ _ y HYG.out.2).trans (HB5.out.block y HYD4.out.2.2)
            exact ⟨(World.cell?_of_block (a := ⟨y, 1, none⟩) e1).trans HYD4.out.1, (World.cell?_of_block (a := ⟨y, 2, none⟩) e1).trans HYD4.out.2.1, by rw [← hW]; have := HYD4.out.2.2; have := HB5.out.size; simp; omega⟩)
          clear hW t1 t2 zc5 fz hzl5 HO5 HB5 HA5 HST4 HB4 HYD4
          have HLU := Lib.hid (show LieN W (.slice Au m cu) ws from HU.out.below HBW2.out)
          have HCP := Lib.hid (rcopy_m HLU.out (by have := HM.out; omega))
          go_wp2_with fail
          refine HCP.out.mono ?_
          rintro e U ⟨vo, rfl, oo, bo⟩
          obtain ⟨Ao, co, hvo⟩ := oo.form_n HM.out.symm
          subst hvo
          have hoc : m ≤ co ∧ co ≤ 9223372036854775807 := by
            obtain ⟨A', c', e', h1, h2⟩ := oo.lie.form
            cases e'
            have := HM.out
            omega
          have HSU := Lib.hid (HSTW.out.below bo)
          have HBU := Lib.hid (HBW2.out.trans (bo.mono HBW2.out.size))
          have HYU2 := Lib.hid (show U.cell? ⟨y, 1, none⟩ = some (.int .i64 lk) ∧ U.cell? ⟨y, 2, none⟩ = some (.int .i64 th) ∧ y < U.heap.size from ⟨(bo.cell (p := ⟨y, 1, none⟩) HYU.out.2.2).trans HYU.out.1, (bo.cell (p := ⟨y, 2, none⟩) HYU.out.2.2).trans HYU.out.2.1, Nat.lt_of_lt_of_le HYU.out.2.2 bo.size⟩)
          have HCQ : Hid (∀ wx : World, Below U.heap.size U wx → wx.cell? ⟨y, 1, none⟩ = some (.int .i64 lk) ∧ wx.cell? ⟨y, 2, none⟩ = some (.int .i64 th) ∧ wx.cell? ⟨zm, 0, none⟩ = some (.slice A5 nh c5)) := Lib.hid (fun wx hx => ⟨(hx.cell (p := ⟨y, 1, none⟩) HYU2.out.2.2).trans HYU2.out.1, (hx.cell (p := ⟨y, 2, none⟩) HYU2.out.2.2).trans HYU2.out.2.1, (hx.cell (p := ⟨zm, 0, none⟩) (heap_lt HSU.out.row)).trans (by rw [cell_of_row U zm 0 _ _ _ HSU.out.row]; rfl)⟩)
          have HOWN := Lib.hid (show ∀ wx : World, Below U.heap.size U wx → LieN wx (.slice Ao m co) ws from fun wx hx => oo.lie.below hx)
          have HWTS := Lib.hid (show ∀ wx : World, Below U.heap.size U wx → LieN wx (.slice Au m cu) ws from fun wx hx => (HLU.out.below bo).below hx)
          have HMLIE := Lib.hid (show ∀ wx : World, Below U.heap.size U wx → LieN wx (.slice A5 nh c5) hs' from fun wx hx => HSU.out.own.lie.below hx)
          have HHD : Hid (∀ wx : World, Below U.heap.size U wx → Calls Try.prog 15 #[.pointer (some ⟨h, 0, none⟩), .int .i64 lk] wx fun e w' => e = .returned (.int .i64 (holdM hs' lk)) ∧ wx = w') := Lib.hid (fun wx hx => holder_any (HSU.out.X.below hx) lk)
          have HRH : Hid (∀ wx : World, Below U.heap.size U wx → Calls Try.prog 16 #[.agg #[.slice A5 nh c5], .int .i64 lk] wx fun e w' => e = .returned (.int .i64 (holdM hs' lk)) ∧ Below U.heap.size U w') := Lib.hid (fun wx hx => (rholder_any (HMLIE.out wx hx) HSU.out.X.good.len lk).mono fun e w' hq => ⟨hq.1, hx.trans (hq.2.mono hx.size)⟩)
          obtain ⟨n1, hn1⟩ : ∃ n1, n1 = (heldM hs' th).length := ⟨_, rfl⟩
          have HHE : Hid (∀ wx : World, Below U.heap.size U wx → Calls Try.prog 18 #[.pointer (some ⟨h, 0, none⟩), .int .i64 th] wx (LstQ U (heldM hs' th) n1 wx)) := Lib.hid (fun wx hx => (held_any (HSU.out.X.below hx) th).mono fun e w' hq => lstQ hn1 hx hq)
          have HRE : Hid (∀ wx : World, Below U.heap.size U wx → Calls Try.prog 19 #[.agg #[.slice A5 nh c5], .int .i64 th] wx (LstQ U (heldM hs' th) n1 wx)) := Lib.hid (fun wx hx => (rheld_any (HMLIE.out wx hx) HSU.out.X.good.len th).mono fun e w' hq => lstQ hn1 hx hq)
          have HAA : Hid (∀ wx : World, Below U.heap.size U wx → Calls Try.prog 20 #[.pointer (some ⟨h, 0, none⟩)] wx (LstQ U hs' nh wx)) := Lib.hid (fun wx hx => (all_any (HSU.out.X.below hx)).mono fun e w' hq => lstQ (HNH2.out) hx hq)
          obtain ⟨n2, hn2⟩ : ∃ n2, n2 = (ringM hs' ws).length := ⟨_, rfl⟩
          have HRG : Hid (∀ wx : World, Below U.heap.size U wx → Calls Try.prog 21 #[.pointer (some ⟨h, 0, none⟩), .slice Ao m co] wx (LstQ U (ringM hs' ws) n2 wx)) := Lib.hid (fun wx hx => (ring_any (HSU.out.X.below hx) (HOWN.out wx hx) (by have := HM.out; omega)).mono fun e w' hq => lstQ hn2 hx hq)
          have HRR : Hid (∀ wx : World, Below U.heap.size U wx → Calls Try.prog 22 #[.agg #[.slice A5 nh c5], .slice Au m cu] wx (LstQ U (ringM hs' ws) n2 wx)) := Lib.hid (fun wx hx => (rring_any (HMLIE.out wx hx) HSU.out.X.good.len (HWTS.out wx hx) (by have := HM.out; omega)).mono fun e w' hq => lstQ hn2 hx (by rw [ring_same]; exact hq))
          have hk0 : Below U.heap.size U U := Below.refl _ _
          obtain ⟨hl, hhl⟩ : ∃ hl, hl = holdM hs' lk := ⟨_, rfl⟩
          rw [← hhl] at HHD HRH
          have HHL8 : n1 ≤ 8 := by rw [hn1]; exact Nat.le_trans (heldM_len _ _) HSU.out.X.good.len
          have HRL8 : n2 ≤ 8 := by rw [hn2, ring_same, ← ring_same]; exact Nat.le_trans (ring_len' _ _) HSU.out.X.good.len
          clear hhl hn1 hn2 oo bo HCP HLU HYU
          go_upto_region 23 with fail
          go_region_held3 (fun w' => w'.cell? ⟨y, 1, none⟩ = some (.int .i64 lk) ∧ w'.cell? ⟨y, 2, none⟩ = some (.int .i64 th) ∧ w'.cell? ⟨zm, 0, none⟩ = some (.slice A5 nh c5))
            (first | with_reducible exact HCQ.out _ hk11 | with_reducible exact HCQ.out _ hk10 | with_reducible exact HCQ.out _ hk9 | with_reducible exact HCQ.out _ hk8 | with_reducible exact HCQ.out _ hk7 | with_reducible exact HCQ.out _ hk6 | with_reducible exact HCQ.out _ hk5 | with_reducible exact HCQ.out _ hk4 | with_reducible exact HCQ.out _ hk3 | with_reducible exact HCQ.out _ hk2 | with_reducible exact HCQ.out _ (drew_bel hk0) | with_reducible exact HCQ.out _ hk0 | go_keep)
            (first
             | (go_at_call 15; refine (HHD.out _ (drew_bel hk0)).mono ?_; rintro e w' ⟨rfl, rfl⟩)
             | (go_at_call 16; refine (HRH.out _ (drew_bel hk0)).mono ?_; rintro e x2 ⟨rfl, hk2⟩)
             | (go_at_call 18; refine (HHE.out _ hk2).mono ?_; rintro e x3 ⟨A3, c3, rfl, l3, b3, hk3⟩)
             | (go_at_call 19; refine (HRE.out _ hk3).mono ?_; rintro e x4 ⟨A4, c4, rfl, l4, b4, hk4⟩)
             | (go_at_call 17; with_reducible refine (same_any (l3.below b4) l4).mono ?_; rintro e x5 ⟨rfl, m5, h5⟩; have hk5 : Below U.heap.size U x5 := same_bel hk4 h5; clear h5)
             | (go_at_call 20; refine (HAA.out _ hk5).mono ?_; rintro e x6 ⟨A6, c6, rfl, l6, b6, hk6⟩)
             | (go_at_call 17; with_reducible refine (same_any l6 (HMLIE.out _ hk6)).mono ?_; rintro e x7 ⟨rfl, m7, h7⟩; have hk7 : Below U.heap.size U x7 := same_bel hk6 h7; clear h7)
             | (go_at_call 21; refine (HRG.out _ hk7).mono ?_; rintro e x8 ⟨A8, c8, rfl, l8, b8, hk8⟩)
             | (go_at_call 22; refine (HRR.out _ hk8).mono ?_; rintro e x9 ⟨A9, c9, rfl, l9, b9, hk9⟩)
             | (go_at_call 17; with_reducible refine (same_any (l8.below b9) l9).mono ?_; rintro e x10 ⟨rfl, m10, h10⟩; have hk10 : Below U.heap.size U x10 := same_bel hk9 h10; clear h10)
             | (go_at_call 17; with_reducible refine (same_any (HOWN.out _ hk10) (HWTS.out _ hk10)).mono ?_; rintro e x11 ⟨rfl, m11, h11⟩; have hk11 : Below U.heap.size U x11 := same_bel hk10 h11; clear h11))
          have HSF := Lib.hid (HSU.out.below hk11)
          have HBF := Lib.hid (HBU.out.trans (hk11.mono HBU.out.size))
          clear HHD HRH HHE HRE HAA HRG HRR HCQ HOWN HWTS HMLIE hk0 hk2 hk3 hk4 hk5 hk6 hk7 hk8 hk9 hk10 hk11 HSU HBU HYU2
          go_wp2_with fail
          go_roundw
          case rel => exact ⟨j + 1, _, _, by omega, by go_num, HSF, HBF⟩
          case measure => simp [intOf]; omega
        · by_cases hw2 : what = 2
          · rw [hw2] at y0
            clear hw1 hw2
            have HP := drop_any HST.out.X lk th HTH.out
            unfold DropQ at HP
            have HRP := fun (wx : World) (o : OwnN wx B (.slice Am nh cm) hs) (hb : B ≤ wx.heap.size) => rdrop_any o HST.out.X.good hb lk th HTH.out
            unfold RStepQ at HRP
            have HLEN := Lib.hid (drop_len hs lk th)
            have HGD := Lib.hid HST.out.X.good
            obtain ⟨⟨hs', ok⟩, hmk⟩ : ∃ r, r = dropM hs lk th := ⟨_, rfl⟩
            rw [← hmk] at HP HRP HLEN
            dsimp only at HP HRP HLEN
            have HP := Lib.hid HP
            have HRP := Lib.hid HRP
            have HNH2 : Hid (nh = hs'.length) := Lib.hid (by rw [HLEN.out]; exact HNH.out)
            clear hmk
            go_wp2_with fail
            refine HP.out.mono ?_
            rintro e w4 ⟨rfl, X4, C4⟩
            have HST4 := Lib.hid (HST.out.one X4 C4)
            have HB4 := Lib.hid (HB.out.trans (C4.bel.mono HBW.out))
            have yg : (some g : Option Nat) ≠ some y := fun e => HYG.out.1 (by injection e with e; exact e.symm)
            have y1' := (World.cell?_of_block (a := ⟨y, 1, none⟩) (C4.blk y hyl yg)).trans y1
            have y2' := (World.cell?_of_block (a := ⟨y, 2, none⟩) (C4.blk y hyl yg)).trans y2
            have hyl' : y < w4.heap.size := Nat.lt_of_lt_of_le hyl C4.size
            have HYD4 := Lib.hid (show w4.cell? ⟨y, 1, none⟩ = some (.int .i64 lk) ∧ w4.cell? ⟨y, 2, none⟩ = some (.int .i64 th) ∧ y < w4.heap.size from ⟨y1', y2', hyl'⟩)
            have zc := cell_of_row w4 zm 0 _ _ _ HST4.out.row
            simp at zc
            have hzl : zm < w4.heap.size := heap_lt HST4.out.row
            have HRP4 := Lib.hid (HRP.out w4 HST4.out.own (Nat.le_trans HST4.out.X.hh (Nat.le_of_lt HST4.out.X.hlt)))
            clear X4 C4 y0 y1 y2 hyl HP HRP HST HB HYD
            go_wp2_with fail
            refine HRP4.out.mono ?_
            rintro e w5 ⟨v5, rfl, o5, b5, a5⟩
            obtain ⟨A5, c5, hv5⟩ := o5.form_n HNH2.out.symm
            subst hv5
            have q0 := (b5.block zm hzl).trans HST4.out.row
            have zc5 := cell_of_row w5 zm 0 _ _ _ q0
            simp at zc5
            have fz := fun j => frozen_of_row w5 zm j _ _ q0
            have hzl5 : zm < w5.heap.size := heap_lt q0
            have HO5 := Lib.hid o5
            have HB5 := Lib.hid b5
            have HA5 := Lib.hid a5
            clear o5 b5 a5 q0 HRP4 y1' y2' hyl' zc hzl yg
            go_upto_region 22 with fail
            generalize hW : w5.setCell ⟨zm, 0, none⟩ (.slice A5 nh c5) = W
            obtain ⟨t1, t2⟩ := HST4.out.two HO5.out HB5.out HA5.out hW
            have HSTW := Lib.hid t1
            have HBW2 := Lib.hid (HB4.out.trans (t2.mono HBW.out))
            have HYU := Lib.hid (show W.cell? ⟨y, 1, none⟩ = some (.int .i64 lk) ∧ W.cell? ⟨y, 2, none⟩ = some (.int .i64 th) ∧ y < W.heap.size from by
              have e1 : W.heap[y]? = w4.heap[y]? := (show W.heap[y]? = w5.heap[y]? from by rw [← hW]; exact Below.heap_setCell w5 _ _ y HYG.out.2).trans (HB5.out.block y HYD4.out.2.2)
              exact ⟨(World.cell?_of_block (a := ⟨y, 1, none⟩) e1).trans HYD4.out.1, (World.cell?_of_block (a := ⟨y, 2, none⟩) e1).trans HYD4.out.2.1, by rw [← hW]; have := HYD4.out.2.2; have := HB5.out.size; simp; omega⟩)
            clear hW t1 t2 zc5 fz hzl5 HO5 HB5 HA5 HST4 HB4 HYD4
            have HLU := Lib.hid (show LieN W (.slice Au m cu) ws from HU.out.below HBW2.out)
            have HCP := Lib.hid (rcopy_m HLU.out (by have := HM.out; omega))
            go_wp2_with fail
            refine HCP.out.mono ?_
            rintro e U ⟨vo, rfl, oo, bo⟩
            obtain ⟨Ao, co, hvo⟩ := oo.form_n HM.out.symm
            subst hvo
            have hoc : m ≤ co ∧ co ≤ 9223372036854775807 := by
              obtain ⟨A', c', e', h1, h2⟩ := oo.lie.form
              cases e'
              have := HM.out
              omega
            have HSU := Lib.hid (HSTW.out.below bo)
            have HBU := Lib.hid (HBW2.out.trans (bo.mono HBW2.out.size))
            have HYU2 := Lib.hid (show U.cell? ⟨y, 1, none⟩ = some (.int .i64 lk) ∧ U.cell? ⟨y, 2, none⟩ = some (.int .i64 th) ∧ y < U.heap.size from ⟨(bo.cell (p := ⟨y, 1, none⟩) HYU.out.2.2).trans HYU.out.1, (bo.cell (p := ⟨y, 2, none⟩) HYU.out.2.2).trans HYU.out.2.1, Nat.lt_of_lt_of_le HYU.out.2.2 bo.size⟩)
            have HCQ : Hid (∀ wx : World, Below U.heap.size U wx → wx.cell? ⟨y, 1, none⟩ = some (.int .i64 lk) ∧ wx.cell? ⟨y, 2, none⟩ = some (.int .i64 th) ∧ wx.cell? ⟨zm, 0, none⟩ = some (.slice A5 nh c5)) := Lib.hid (fun wx hx => ⟨(hx.cell (p := ⟨y, 1, none⟩) HYU2.out.2.2).trans HYU2.out.1, (hx.cell (p := ⟨y, 2, none⟩) HYU2.out.2.2).trans HYU2.out.2.1, (hx.cell (p := ⟨zm, 0, none⟩) (heap_lt HSU.out.row)).trans (by rw [cell_of_row U zm 0 _ _ _ HSU.out.row]; rfl)⟩)
            have HOWN := Lib.hid (show ∀ wx : World, Below U.heap.size U wx → LieN wx (.slice Ao m co) ws from fun wx hx => oo.lie.below hx)
            have HWTS := Lib.hid (show ∀ wx : World, Below U.heap.size U wx → LieN wx (.slice Au m cu) ws from fun wx hx => (HLU.out.below bo).below hx)
            have HMLIE := Lib.hid (show ∀ wx : World, Below U.heap.size U wx → LieN wx (.slice A5 nh c5) hs' from fun wx hx => HSU.out.own.lie.below hx)
            have HHD : Hid (∀ wx : World, Below U.heap.size U wx → Calls Try.prog 15 #[.pointer (some ⟨h, 0, none⟩), .int .i64 lk] wx fun e w' => e = .returned (.int .i64 (holdM hs' lk)) ∧ wx = w') := Lib.hid (fun wx hx => holder_any (HSU.out.X.below hx) lk)
            have HRH : Hid (∀ wx : World, Below U.heap.size U wx → Calls Try.prog 16 #[.agg #[.slice A5 nh c5], .int .i64 lk] wx fun e w' => e = .returned (.int .i64 (holdM hs' lk)) ∧ Below U.heap.size U w') := Lib.hid (fun wx hx => (rholder_any (HMLIE.out wx hx) HSU.out.X.good.len lk).mono fun e w' hq => ⟨hq.1, hx.trans (hq.2.mono hx.size)⟩)
            obtain ⟨n1, hn1⟩ : ∃ n1, n1 = (heldM hs' th).length := ⟨_, rfl⟩
            have HHE : Hid (∀ wx : World, Below U.heap.size U wx → Calls Try.prog 18 #[.pointer (some ⟨h, 0, none⟩), .int .i64 th] wx (LstQ U (heldM hs' th) n1 wx)) := Lib.hid (fun wx hx => (held_any (HSU.out.X.below hx) th).mono fun e w' hq => lstQ hn1 hx hq)
            have HRE : Hid (∀ wx : World, Below U.heap.size U wx → Calls Try.prog 19 #[.agg #[.slice A5 nh c5], .int .i64 th] wx (LstQ U (heldM hs' th) n1 wx)) := Lib.hid (fun wx hx => (rheld_any (HMLIE.out wx hx) HSU.out.X.good.len th).mono fun e w' hq => lstQ hn1 hx hq)
            have HAA : Hid (∀ wx : World, Below U.heap.size U wx → Calls Try.prog 20 #[.pointer (some ⟨h, 0, none⟩)] wx (LstQ U hs' nh wx)) := Lib.hid (fun wx hx => (all_any (HSU.out.X.below hx)).mono fun e w' hq => lstQ (HNH2.out) hx hq)
            obtain ⟨n2, hn2⟩ : ∃ n2, n2 = (ringM hs' ws).length := ⟨_, rfl⟩
            have HRG : Hid (∀ wx : World, Below U.heap.size U wx → Calls Try.prog 21 #[.pointer (some ⟨h, 0, none⟩), .slice Ao m co] wx (LstQ U (ringM hs' ws) n2 wx)) := Lib.hid (fun wx hx => (ring_any (HSU.out.X.below hx) (HOWN.out wx hx) (by have := HM.out; omega)).mono fun e w' hq => lstQ hn2 hx hq)
            have HRR : Hid (∀ wx : World, Below U.heap.size U wx → Calls Try.prog 22 #[.agg #[.slice A5 nh c5], .slice Au m cu] wx (LstQ U (ringM hs' ws) n2 wx)) := Lib.hid (fun wx hx => (rring_any (HMLIE.out wx hx) HSU.out.X.good.len (HWTS.out wx hx) (by have := HM.out; omega)).mono fun e w' hq => lstQ hn2 hx (by rw [ring_same]; exact hq))
            have hk0 : Below U.heap.size U U := Below.refl _ _
            obtain ⟨hl, hhl⟩ : ∃ hl, hl = holdM hs' lk := ⟨_, rfl⟩
            rw [← hhl] at HHD HRH
            have HHL8 : n1 ≤ 8 := by rw [hn1]; exact Nat.le_trans (heldM_len _ _) HSU.out.X.good.len
            have HRL8 : n2 ≤ 8 := by rw [hn2, ring_same, ← ring_same]; exact Nat.le_trans (ring_len' _ _) HSU.out.X.good.len
            clear hhl hn1 hn2 oo bo HCP HLU HYU
            go_upto_region 23 with fail
            go_region_held3 (fun w' => w'.cell? ⟨y, 1, none⟩ = some (.int .i64 lk) ∧ w'.cell? ⟨y, 2, none⟩ = some (.int .i64 th) ∧ w'.cell? ⟨zm, 0, none⟩ = some (.slice A5 nh c5))
              (first | with_reducible exact HCQ.out _ hk11 | with_reducible exact HCQ.out _ hk10 | with_reducible exact HCQ.out _ hk9 | with_reducible exact HCQ.out _ hk8 | with_reducible exact HCQ.out _ hk7 | with_reducible exact HCQ.out _ hk6 | with_reducible exact HCQ.out _ hk5 | with_reducible exact HCQ.out _ hk4 | with_reducible exact HCQ.out _ hk3 | with_reducible exact HCQ.out _ hk2 | with_reducible exact HCQ.out _ (drew_bel hk0) | with_reducible exact HCQ.out _ hk0 | go_keep)
              (first
               | (go_at_call 15; refine (HHD.out _ (drew_bel hk0)).mono ?_; rintro e w' ⟨rfl, rfl⟩)
               | (go_at_call 16; refine (HRH.out _ (drew_bel hk0)).mono ?_; rintro e x2 ⟨rfl, hk2⟩)
               | (go_at_call 18; refine (HHE.out _ hk2).mono ?_; rintro e x3 ⟨A3, c3, rfl, l3, b3, hk3⟩)
               | (go_at_call 19; refine (HRE.out _ hk3).mono ?_; rintro e x4 ⟨A4, c4, rfl, l4, b4, hk4⟩)
               | (go_at_call 17; with_reducible refine (same_any (l3.below b4) l4).mono ?_; rintro e x5 ⟨rfl, m5, h5⟩; have hk5 : Below U.heap.size U x5 := same_bel hk4 h5; clear h5)
               | (go_at_call 20; refine (HAA.out _ hk5).mono ?_; rintro e x6 ⟨A6, c6, rfl, l6, b6, hk6⟩)
               | (go_at_call 17; with_reducible refine (same_any l6 (HMLIE.out _ hk6)).mono ?_; rintro e x7 ⟨rfl, m7, h7⟩; have hk7 : Below U.heap.size U x7 := same_bel hk6 h7; clear h7)
               | (go_at_call 21; refine (HRG.out _ hk7).mono ?_; rintro e x8 ⟨A8, c8, rfl, l8, b8, hk8⟩)
               | (go_at_call 22; refine (HRR.out _ hk8).mono ?_; rintro e x9 ⟨A9, c9, rfl, l9, b9, hk9⟩)
               | (go_at_call 17; with_reducible refine (same_any (l8.below b9) l9).mono ?_; rintro e x10 ⟨rfl, m10, h10⟩; have hk10 : Below U.heap.size U x10 := same_bel hk9 h10; clear h10)
               | (go_at_call 17; with_reducible refine (same_any (HOWN.out _ hk10) (HWTS.out _ hk10)).mono ?_; rintro e x11 ⟨rfl, m11, h11⟩; have hk11 : Below U.heap.size U x11 := same_bel hk10 h11; clear h11))
            have HSF := Lib.hid (HSU.out.below hk11)
            have HBF := Lib.hid (HBU.out.trans (hk11.mono HBU.out.size))
            clear HHD HRH HHE HRE HAA HRG HRR HCQ HOWN HWTS HMLIE hk0 hk2 hk3 hk4 hk5 hk6 hk7 hk8 hk9 hk10 hk11 HSU HBU HYU2
            go_wp2_with fail
            go_roundw
            case rel => exact ⟨j + 1, _, _, by omega, by go_num, HSF, HBF⟩
            case measure => simp [intOf]; omega
          · have HYU := HYD
            go_upto_region 22 with fail
            clear y0 y1 y2 hyl HYD
            have HLU := Lib.hid (show LieN V (.slice Au m cu) ws from HU.out.below HB.out)
            have HCP := Lib.hid (rcopy_m HLU.out (by have := HM.out; omega))
            go_wp2_with fail
            refine HCP.out.mono ?_
            rintro e U ⟨vo, rfl, oo, bo⟩
            obtain ⟨Ao, co, hvo⟩ := oo.form_n HM.out.symm
            subst hvo
            have hoc : m ≤ co ∧ co ≤ 9223372036854775807 := by
              obtain ⟨A', c', e', h1, h2⟩ := oo.lie.form
              cases e'
              have := HM.out
              omega
            have HSU := Lib.hid (HST.out.below bo)
            have HBU := Lib.hid (HB.out.trans (bo.mono HB.out.size))
            have HYU2 := Lib.hid (show U.cell? ⟨y, 1, none⟩ = some (.int .i64 lk) ∧ U.cell? ⟨y, 2, none⟩ = some (.int .i64 th) ∧ y < U.heap.size from ⟨(bo.cell (p := ⟨y, 1, none⟩) HYU.out.2.2).trans HYU.out.1, (bo.cell (p := ⟨y, 2, none⟩) HYU.out.2.2).trans HYU.out.2.1, Nat.lt_of_lt_of_le HYU.out.2.2 bo.size⟩)
            have HCQ : Hid (∀ wx : World, Below U.heap.size U wx → wx.cell? ⟨y, 1, none⟩ = some (.int .i64 lk) ∧ wx.cell? ⟨y, 2, none⟩ = some (.int .i64 th) ∧ wx.cell? ⟨zm, 0, none⟩ = some (.slice Am nh cm)) := Lib.hid (fun wx hx => ⟨(hx.cell (p := ⟨y, 1, none⟩) HYU2.out.2.2).trans HYU2.out.1, (hx.cell (p := ⟨y, 2, none⟩) HYU2.out.2.2).trans HYU2.out.2.1, (hx.cell (p := ⟨zm, 0, none⟩) (heap_lt HSU.out.row)).trans (by rw [cell_of_row U zm 0 _ _ _ HSU.out.row]; rfl)⟩)
            have HOWN := Lib.hid (show ∀ wx : World, Below U.heap.size U wx → LieN wx (.slice Ao m co) ws from fun wx hx => oo.lie.below hx)
            have HWTS := Lib.hid (show ∀ wx : World, Below U.heap.size U wx → LieN wx (.slice Au m cu) ws from fun wx hx => (HLU.out.below bo).below hx)
            have HMLIE := Lib.hid (show ∀ wx : World, Below U.heap.size U wx → LieN wx (.slice Am nh cm) hs from fun wx hx => HSU.out.own.lie.below hx)
            have HHD : Hid (∀ wx : World, Below U.heap.size U wx → Calls Try.prog 15 #[.pointer (some ⟨h, 0, none⟩), .int .i64 lk] wx fun e w' => e = .returned (.int .i64 (holdM hs lk)) ∧ wx = w') := Lib.hid (fun wx hx => holder_any (HSU.out.X.below hx) lk)
            have HRH : Hid (∀ wx : World, Below U.heap.size U wx → Calls Try.prog 16 #[.agg #[.slice Am nh cm], .int .i64 lk] wx fun e w' => e = .returned (.int .i64 (holdM hs lk)) ∧ Below U.heap.size U w') := Lib.hid (fun wx hx => (rholder_any (HMLIE.out wx hx) HSU.out.X.good.len lk).mono fun e w' hq => ⟨hq.1, hx.trans (hq.2.mono hx.size)⟩)
            obtain ⟨n1, hn1⟩ : ∃ n1, n1 = (heldM hs th).length := ⟨_, rfl⟩
            have HHE : Hid (∀ wx : World, Below U.heap.size U wx → Calls Try.prog 18 #[.pointer (some ⟨h, 0, none⟩), .int .i64 th] wx (LstQ U (heldM hs th) n1 wx)) := Lib.hid (fun wx hx => (held_any (HSU.out.X.below hx) th).mono fun e w' hq => lstQ hn1 hx hq)
            have HRE : Hid (∀ wx : World, Below U.heap.size U wx → Calls Try.prog 19 #[.agg #[.slice Am nh cm], .int .i64 th] wx (LstQ U (heldM hs th) n1 wx)) := Lib.hid (fun wx hx => (rheld_any (HMLIE.out wx hx) HSU.out.X.good.len th).mono fun e w' hq => lstQ hn1 hx hq)
            have HAA : Hid (∀ wx : World, Below U.heap.size U wx → Calls Try.prog 20 #[.pointer (some ⟨h, 0, none⟩)] wx (LstQ U hs nh wx)) := Lib.hid (fun wx hx => (all_any (HSU.out.X.below hx)).mono fun e w' hq => lstQ (HNH.out) hx hq)
            obtain ⟨n2, hn2⟩ : ∃ n2, n2 = (ringM hs ws).length := ⟨_, rfl⟩
            have HRG : Hid (∀ wx : World, Below U.heap.size U wx → Calls Try.prog 21 #[.pointer (some ⟨h, 0, none⟩), .slice Ao m co] wx (LstQ U (ringM hs ws) n2 wx)) := Lib.hid (fun wx hx => (ring_any (HSU.out.X.below hx) (HOWN.out wx hx) (by have := HM.out; omega)).mono fun e w' hq => lstQ hn2 hx hq)
            have HRR : Hid (∀ wx : World, Below U.heap.size U wx → Calls Try.prog 22 #[.agg #[.slice Am nh cm], .slice Au m cu] wx (LstQ U (ringM hs ws) n2 wx)) := Lib.hid (fun wx hx => (rring_any (HMLIE.out wx hx) HSU.out.X.good.len (HWTS.out wx hx) (by have := HM.out; omega)).mono fun e w' hq => lstQ hn2 hx (by rw [ring_same]; exact hq))
            have hk0 : Below U.heap.size U U := Below.refl _ _
            obtain ⟨hl, hhl⟩ : ∃ hl, hl = holdM hs lk := ⟨_, rfl⟩
            rw [← hhl] at HHD HRH
            have HHL8 : n1 ≤ 8 := by rw [hn1]; exact Nat.le_trans (heldM_len _ _) HSU.out.X.good.len
            have HRL8 : n2 ≤ 8 := by rw [hn2, ring_same, ← ring_same]; exact Nat.le_trans (ring_len' _ _) HSU.out.X.good.len
            clear hhl hn1 hn2 oo bo HCP HLU HYU
            go_upto_region 23 with fail
            go_region_held3 (fun w' => w'.cell? ⟨y, 1, none⟩ = some (.int .i64 lk) ∧ w'.cell? ⟨y, 2, none⟩ = some (.int .i64 th) ∧ w'.cell? ⟨zm, 0, none⟩ = some (.slice Am nh cm))
              (first | with_reducible exact HCQ.out _ hk11 | with_reducible exact HCQ.out _ hk10 | with_reducible exact HCQ.out _ hk9 | with_reducible exact HCQ.out _ hk8 | with_reducible exact HCQ.out _ hk7 | with_reducible exact HCQ.out _ hk6 | with_reducible exact HCQ.out _ hk5 | with_reducible exact HCQ.out _ hk4 | with_reducible exact HCQ.out _ hk3 | with_reducible exact HCQ.out _ hk2 | with_reducible exact HCQ.out _ (drew_bel hk0) | with_reducible exact HCQ.out _ hk0 | go_keep)
              (first
               | (go_at_call 15; refine (HHD.out _ (drew_bel hk0)).mono ?_; rintro e w' ⟨rfl, rfl⟩)
               | (go_at_call 16; refine (HRH.out _ (drew_bel hk0)).mono ?_; rintro e x2 ⟨rfl, hk2⟩)
               | (go_at_call 18; refine (HHE.out _ hk2).mono ?_; rintro e x3 ⟨A3, c3, rfl, l3, b3, hk3⟩)
               | (go_at_call 19; refine (HRE.out _ hk3).mono ?_; rintro e x4 ⟨A4, c4, rfl, l4, b4, hk4⟩)
               | (go_at_call 17; with_reducible refine (same_any (l3.below b4) l4).mono ?_; rintro e x5 ⟨rfl, m5, h5⟩; have hk5 : Below U.heap.size U x5 := same_bel hk4 h5; clear h5)
               | (go_at_call 20; refine (HAA.out _ hk5).mono ?_; rintro e x6 ⟨A6, c6, rfl, l6, b6, hk6⟩)
               | (go_at_call 17; with_reducible refine (same_any l6 (HMLIE.out _ hk6)).mono ?_; rintro e x7 ⟨rfl, m7, h7⟩; have hk7 : Below U.heap.size U x7 := same_bel hk6 h7; clear h7)
               | (go_at_call 21; refine (HRG.out _ hk7).mono ?_; rintro e x8 ⟨A8, c8, rfl, l8, b8, hk8⟩)
               | (go_at_call 22; refine (HRR.out _ hk8).mono ?_; rintro e x9 ⟨A9, c9, rfl, l9, b9, hk9⟩)
               | (go_at_call 17; with_reducible refine (same_any (l8.below b9) l9).mono ?_; rintro e x10 ⟨rfl, m10, h10⟩; have hk10 : Below U.heap.size U x10 := same_bel hk9 h10; clear h10)
               | (go_at_call 17; with_reducible refine (same_any (HOWN.out _ hk10) (HWTS.out _ hk10)).mono ?_; rintro e x11 ⟨rfl, m11, h11⟩; have hk11 : Below U.heap.size U x11 := same_bel hk10 h11; clear h11))
            have HSF := Lib.hid (HSU.out.below hk11)
            have HBF := Lib.hid (HBU.out.trans (hk11.mono HBU.out.size))
            clear HHD HRH HHE HRE HAA HRG HRR HCQ HOWN HWTS HMLIE hk0 hk2 hk3 hk4 hk5 hk6 hk7 hk8 hk9 hk10 hk11 HSU HBU HYU2
            go_wp2_with fail
            go_roundw
            case rel => exact ⟨j + 1, _, _, by omega, by go_num, HSF, HBF⟩
            case measure => simp [intOf]; omega
      · obtain rfl : n = j := by omega
        go_wp2
        go_ret
        exact ⟨rfl, HB.out⟩

end Go.Proofs.Ytpdihmlilbccjaa
