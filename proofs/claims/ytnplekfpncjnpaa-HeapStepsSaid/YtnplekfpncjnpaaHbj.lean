/- The walk of HeapSteps. -/
import Derived.Test.YtnplekfpncjnpaaHap
import Derived.Test.YtnplekfpncjnpaaHbc
import Derived.Test.YtnplekfpncjnpaaHbi
import Derived.Deep.CutRange
set_option linter.unusedVariables false
set_option linter.unusedSimpArgs false
namespace Go.Proofs.Ytnplekfpncjnpaa
open Go.RowKit

/-- the developers' heap H1 (blocks h, g, and rows A), and the document's H2 in the box zm: (v1, v2), in blocks of S -/
structure St (wr : World) (base h g c zm : Nat) (A : List Value) (S : Nat → Prop) (v1 v2 : Value) (H1 H2 : Hp) : Prop where
  X : HpAt wr base h g c A H1
  bs : base ≤ wr.heap.size
  row : wr.heap[zm]? = some (.cells #[v1, v2] 29 (0, 0))
  zn : NotMine h g A zm
  ref : RefAt wr S v1 v2 H2
  s : ∀ b, S b → b < wr.heap.size ∧ NotMine h g A b ∧ b ≠ zm
theorem St.below {wr w' : World} {base h g c zm : Nat} {A : List Value} {S : Nat → Prop} {v1 v2 : Value} {H1 H2 : Hp} (t : St wr base h g c zm A S v1 v2 H1 H2) (hb : Below wr.heap.size wr w') : St w' base h g c zm A S v1 v2 H1 H2 :=
  ⟨t.X.below hb, Nat.le_trans t.bs hb.size, (hb.block zm (heap_lt t.row)).trans t.row, t.zn, t.ref.keep (fun b h2 => hb.block b (t.s b h2).1) (fun _ h2 => h2), fun b h2 => ⟨Nat.lt_of_lt_of_le (t.s b h2).1 hb.size, (t.s b h2).2⟩⟩
theorem St.heap {wr w' : World} {base h g c zm : Nat} {A A' : List Value} {S : Nat → Prop} {v1 v2 : Value} {H1 H2 H' : Hp} (t : St wr base h g c zm A S v1 v2 H1 H2) (X' : HpAt w' base h g c A' H') (hs : wr.heap.size ≤ w'.heap.size)
    (hf : Foreign wr w' h g A) (hn : ∀ b, b < wr.heap.size → NotMine h g A b → NotMine h g A' b) : St w' base h g c zm A' S v1 v2 H' H2 :=
  ⟨X', Nat.le_trans t.bs hs, (hf.at_ (heap_lt t.row) t.zn).trans t.row, hn zm (heap_lt t.row) t.zn, t.ref.keep (fun b h2 => hf.at_ (t.s b h2).1 (t.s b h2).2.1) (fun _ h2 => h2),
    fun b h2 => ⟨Nat.lt_of_lt_of_le (t.s b h2).1 hs, hn b (t.s b h2).1 (t.s b h2).2.1, (t.s b h2).2.2⟩⟩
theorem St.put {wr w5 W : World} {base h g c zm : Nat} {A : List Value} {S : Nat → Prop} {v1 v2 u1 u2 : Value} {H1 H2 H' : Hp} (t : St wr base h g c zm A S v1 v2 H1 H2) (hb : Below wr.heap.size wr w5)
    (hr : RefAt w5 (fun b => S b ∨ (wr.heap.size ≤ b ∧ b < w5.heap.size)) u1 u2 H') {o : Obj} (hW : ((w5.alloc o).setCell ⟨zm, 0, none⟩ u1).setCell ⟨zm, 1, none⟩ u2 = W) :
    St W base h g c zm A (fun b => S b ∨ (wr.heap.size ≤ b ∧ b < w5.heap.size)) u1 u2 H1 H' ∧ (∀ b, b < wr.heap.size → b ≠ zm → W.heap[b]? = wr.heap[b]?) ∧ Below zm wr W := by
  have hz := heap_lt t.row
  have hz5 : zm < w5.heap.size := Nat.lt_of_lt_of_le hz hb.size
  have ha : ∀ b, b < w5.heap.size → (w5.alloc o).heap[b]? = w5.heap[b]? := fun b h2 => heap_alloc_old _ _ h2
  have hrow : (w5.alloc o).heap[zm]? = some (.cells #[v1, v2] 29 (0, 0)) := (ha zm hz5).trans ((hb.block zm hz).trans t.row)
  obtain ⟨r1, r2, r3, r4⟩ := two_row hrow u1 u2 hW
  have hs5 : (w5.alloc o).heap.size = w5.heap.size + 1 := by simp
  have hsz : wr.heap.size ≤ W.heap.size := by have := hb.size; omega
  have hk : ∀ b, b < wr.heap.size → b ≠ zm → W.heap[b]? = wr.heap[b]? := fun b h2 h3 => (r2 b h3).trans ((ha b (Nat.lt_of_lt_of_le h2 hb.size)).trans (hb.block b h2))
  refine ⟨⟨t.X.but t.zn hk, Nat.le_trans t.bs hsz, r1, t.zn, hr.keep (fun b h2 => ?_) (fun _ h2 => h2), fun b h2 => ?_⟩, hk, ?_⟩
  · have hne : b ≠ zm := by rcases h2 with h2 | h2; · exact (t.s b h2).2.2
                            · omega
    have hlt : b < w5.heap.size := by rcases h2 with h2 | h2; · exact Nat.lt_of_lt_of_le (t.s b h2).1 hb.size
                                      · exact h2.2
    exact (r2 b hne).trans (ha b hlt)
  · rcases h2 with h2 | h2
    · exact ⟨Nat.lt_of_lt_of_le (t.s b h2).1 hsz, (t.s b h2).2⟩
    · exact ⟨by omega, t.X.toHpRaw.notMine h2.1, by omega⟩
  · exact ⟨r3.os.trans hb.os, r3.tape.trans hb.tape, r3.output.trans hb.output, hsz, fun b h2 => hk b (by omega) (by omega)⟩
theorem lies_lit {α : Type} {E : Kd α} (w : World) (S : Nat → Prop) (A : Option Addr) (c : Nat) (hc : c ≤ 9223372036854775807) : Lies E w S [] (.slice A 0 c) := ⟨A, c, fun _ => [], rfl, Nat.zero_le _, hc, by simp, fun k hk => absurd hk (by simp)⟩
theorem RowW.lies {w : World} {base : Nat} {ws : List Wd} {v : Value} (h : RowW w base ws v) (hl : ws.length ≤ 1000) : Lies KWd w (fun b => v.ownBlock = some b) ws v := row_lies (K := KWd) (cl := wcells) (fun _ _ _ _ e => e) (fun _ => rfl) h hl
theorem RowO.lies {w : World} {base : Nat} {os : List Ob} {v : Value} (h : RowO w base os v) (hl : os.length ≤ 1000) : Lies KOb w (fun b => v.ownBlock = some b) os v := row_lies (K := KOb) (cl := ocells) (fun _ _ _ _ e => e) (fun _ => rfl) h hl
theorem same_w {V : World} {T : Nat → Prop} {xs : List Wd} {u : Value} (h : Lies KWd V T xs u) (hT : ∀ b, T b → b < V.heap.size) (hx : xs.length ≤ 1000) (wx : World) (vv : Value) (bb : Nat) (hr : RowW wx bb xs vv) (hb : Below V.heap.size V wx) :
    Calls Try.prog 18 #[vv, u] wx fun e w' => e = .returned (.bool true) ∧ Below wx.heap.size wx w' :=
  samew_any (hr.lies hx) (h.keep (fun b h2 => hb.block b (hT b h2)) (fun _ h2 => h2)) (fun b h2 => (World.ownsRow.lt hr b h2).2) (fun b h2 => Nat.lt_of_lt_of_le (hT b h2) hb.size) hx
theorem same_o {V : World} {T : Nat → Prop} {xs : List Ob} {u : Value} (h : Lies KOb V T xs u) (hT : ∀ b, T b → b < V.heap.size) (hx : xs.length ≤ 1000) (wx : World) (vv : Value) (bb : Nat) (hr : RowO wx bb xs vv) (hb : Below V.heap.size V wx) :
    Calls Try.prog 20 #[vv, u] wx fun e w' => e = .returned (.bool true) ∧ Below wx.heap.size wx w' :=
  sameo_any (hr.lies hx) (h.keep (fun b h2 => hb.block b (hT b h2)) (fun _ h2 => h2)) (fun b h2 => (World.ownsRow.lt hr b h2).2) (fun b h2 => Nat.lt_of_lt_of_le (hT b h2) hb.size) hx
theorem ws_in {H : Hp} (k : Nat) : ws_ H (k : Nat) = (getM H k).ws := by unfold ws_; rw [if_neg (by omega), Int.toNat_natCast]
theorem os_in {H : Hp} (k : Nat) : os_ H (k : Nat) = (getM H k).os := by unfold os_; rw [if_neg (by omega), Int.toNat_natCast]
theorem ws_out {H : Hp} {t : Int} (h : t < 0 ∨ (H.length : Int) ≤ t) : ws_ H t = [] := by
  unfold ws_
  split
  · rfl
  · rw [getM_ge (by omega)]
theorem os_out {H : Hp} {t : Int} (h : t < 0 ∨ (H.length : Int) ≤ t) : os_ H t = [] := by
  unfold os_
  split
  · rfl
  · rw [getM_ge (by omega)]
theorem GoodH.ws64 {H : Hp} (h : GoodH H) (t : Nat) : (getM H t).ws.length ≤ 1000 ∧ (getM H t).os.length ≤ 1000 := by
  have h1 := h.get t
  have h2 := h1.2
  have h3 := chained_le h1.1
  omega
set_option maxRecDepth 100000 in
set_option maxHeartbeats 8000000 in
theorem steps_walk (w : World) (tn : Int) (htn : In64 tn) (zs : List Cl) (sv : Value) (hv : Scr KC w (· < w.heap.size) zs sv) :
    Calls Try.prog 3 #[.int .i64 tn, sv] w fun e w' => e = .returned (.bool true) ∧ Below w.heap.size w w' := by
  obtain ⟨A, cz, rfl, hzc, hz63⟩ := hv.form
  have HAL := Lib.hid (alive_any w)
  have HV := Lib.hid hv
  have HTN := Lib.hid htn
  obtain ⟨n, hn⟩ : ∃ n, n = zs.length := ⟨_, rfl⟩
  rw [← hn] at hzc ⊢
  have HN := Lib.hid hn
  clear hv hn htn
  by_cases hbig : 200 < n
  · go_enter Try.func3, Try.ntmps3
    go_wp2_with fail
    refine HAL.out.mono ?_
    rintro e w1 ⟨rfl, hb1⟩
    have HB1 := Lib.hid hb1
    clear hb1
    go_wp2
    go_ret
    exact ⟨rfl, HB1.out⟩
  · have hsm : n ≤ 200 := by omega
    clear hbig
    go_enter Try.func3, Try.ntmps3
    go_wp2_with fail
    refine HAL.out.mono ?_
    rintro e w1 ⟨rfl, hb1⟩
    have HB1 := Lib.hid hb1
    have HNEW := Lib.hid (new_any w1 tn HTN.out)
    clear hb1 HAL
    go_wp2_with fail
    refine HNEW.out.mono ?_
    rintro e w2 ⟨h, g, c, A0, rfl, X0, hb2⟩
    have HX0 := Lib.hid X0
    have HB2 := Lib.hid (HB1.out.trans (hb2.mono HB1.out.size))
    obtain ⟨base, hbase⟩ : ∃ base, base = w1.heap.size := ⟨_, rfl⟩
    rw [← hbase] at HX0
    have HBASE := Lib.hid (show base ≤ w2.heap.size ∧ w.heap.size ≤ base from ⟨by rw [hbase]; exact hb2.size, by rw [hbase]; exact HB1.out.size⟩)
    have HRN := Lib.hid (rnew_any w2 tn HTN.out)
    clear X0 hb2 HNEW hbase HB1
    go_wp2_with fail
    refine HRN.out.mono ?_
    rintro e w3 ⟨u1, u2, rfl, X3, hb3⟩
    obtain ⟨Am, cm, Bm, dm, rfl, hcm, rfl, hdm⟩ := X3.form
    obtain ⟨nm, hnm⟩ : ∃ n, n = (newM tn).length := ⟨_, rfl⟩
    rw [← hnm] at X3 hcm hdm ⊢
    obtain ⟨o, ho⟩ : ∃ o : Obj, o = .cells #[.slice Am nm cm, .slice Bm nm dm] 29 := ⟨_, rfl⟩
    have hst : St (w3.alloc o) base h g c w3.heap.size A0 (fun b => w2.heap.size ≤ b ∧ b < w3.heap.size) (.slice Am nm cm) (.slice Bm nm dm) (newM tn) (newM tn) := by
      have hb4 : Below w2.heap.size w2 (w3.alloc o) := hb3.alloc hb3.size _
      refine ⟨HX0.out.below hb4, Nat.le_trans HBASE.out.1 hb4.size, by rw [ho]; exact heap_alloc_new w3 _, HX0.out.toHpRaw.notMine hb3.size, X3.keep (fun b h2 => heap_alloc_old _ _ h2.2) (fun _ h2 => h2), fun b h2 => ⟨?_, HX0.out.toHpRaw.notMine h2.1, by omega⟩⟩
      simp
      omega
    have hb4 : Below w.heap.size w (w3.alloc o) := HB2.out.trans ((hb3.alloc hb3.size o).mono HB2.out.size)
    have hzw : w.heap.size ≤ w3.heap.size := Nat.le_trans HB2.out.size hb3.size
    rw [ho] at hst hb4
    clear ho hnm
    go_upto_region 7 with fail
    generalize w3.alloc (.cells #[.slice Am nm cm, .slice Bm nm dm] 29) = V0 at hst hb4 ⊢
    obtain ⟨zm, hzm⟩ : ∃ z, z = w3.heap.size := ⟨_, rfl⟩
    rw [← hzm] at hst hzw ⊢
    have HST0 := Lib.hid hst
    have HB0 := Lib.hid hb4
    have HZW := Lib.hid hzw
    clear hst hb4 hzw X3 hb3 hcm hdm hzm HRN HX0 HB2
    go_wp2_with fail
    go_loopw [7] (fun i wr => ∃ (j : Nat) (H : Hp) (A' : List Value) (S : Nat → Prop) (v1 v2 : Value), j ≤ n ∧ i = .int .i64 (j : Nat) ∧ Hid (St wr base h g c zm A' S v1 v2 H H) ∧ Hid (Below w.heap.size w wr)) (fun i _ => n - (intOf i).toNat)
    case atStart => exact ⟨0, _, A0, _, _, _, Nat.zero_le _, rfl, HST0, HB0⟩
    case round =>
      clear HST0 HB0
      obtain ⟨wo, rfl⟩ : ∃ wo : World, wo = wr := ⟨_, rfl⟩
      obtain ⟨j, H, A', S, v1, v2, hj, rfl, HST, HB⟩ := hrel
      obtain ⟨Am, cm, Bm, dm, rfl, hcm, rfl, hdm⟩ := HST.out.ref.form
      obtain ⟨nm, hnm⟩ : ∃ n, n = H.length := ⟨_, rfl⟩
      have h4 := HST.out.X.good.1
      rw [← hnm] at HST hcm hdm h4
      have HLEN := Lib.hid hnm
      clear hnm
      by_cases hlt : j < n
      · have hjl : j < zs.length := by rw [← HN.out]; exact hlt
        obtain ⟨gz, off, rfl, hgz, k0, k1, k2, k3, k4, hin⟩ := HV.out.call j hjl
        have c0 := (HB.out.cell (p := ⟨gz, off + j * 5, none⟩) hgz).trans k0
        have c1 := (HB.out.cell (p := ⟨gz, off + j * 5 + 1, none⟩) hgz).trans k1
        have c2 := (HB.out.cell (p := ⟨gz, off + j * 5 + 2, none⟩) hgz).trans k2
        have c3 := (HB.out.cell (p := ⟨gz, off + j * 5 + 3, none⟩) hgz).trans k3
        have c4 := (HB.out.cell (p := ⟨gz, off + j * 5 + 4, none⟩) hgz).trans k4
        obtain ⟨q, hq⟩ : ∃ q, q = zs[j] := ⟨_, rfl⟩
        rw [← hq] at c0 c1 c2 c3 c4 hin
        obtain ⟨y0, y1, y2, y3, y4⟩ := q
        have HIN := Lib.hid hin
        have HIN1 : Hid (In64 y1) := Lib.hid hin.a
        dsimp only at c0 c1 c2 c3 c4
        clear k0 k1 k2 k3 k4 hin hq hjl
        have h5 := five_new wo (.int .i64 y0) (.int .i64 y1) (.int .i64 y2) (.int .i64 y3) (.int .i64 y4) 32
        have hb5 : Below wo.heap.size wo (wo.alloc (.cells #[.int .i64 y0, .int .i64 y1, .int .i64 y2, .int .i64 y3, .int .i64 y4] 32)) := (Below.refl _ wo).alloc (Nat.le_refl _) _
        have hy5 : wo.heap.size < (wo.alloc (.cells #[.int .i64 y0, .int .i64 y1, .int .i64 y2, .int .i64 y3, .int .i64 y4] 32)).heap.size := by simp
        have hny := HST.out.X.toHpRaw.notMine (Nat.le_refl wo.heap.size)
        have hzy : wo.heap.size ≠ zm := by have := heap_lt HST.out.row; omega
        go_upto_region 13 with fail
        generalize wo.alloc (.cells #[.int .i64 y0, .int .i64 y1, .int .i64 y2, .int .i64 y3, .int .i64 y4] 32) = V at h5 hb5 hy5 ⊢
        obtain ⟨y, hy⟩ : ∃ y, y = wo.heap.size := ⟨_, rfl⟩
        have HSTV := Lib.hid (HST.out.below hb5)
        have HBV := Lib.hid (HB.out.trans (hb5.mono HB.out.size))
        rw [← hy] at h5 hy5 hny hzy ⊢
        have HNY := Lib.hid hny
        have H5 := Lib.hid h5
        have HYV := Lib.hid hy5
        have o0 := cell_of_row _ _ 0 _ _ (0, 0) HSTV.out.row
        have o1 := cell_of_row _ _ 1 _ _ (0, 0) HSTV.out.row
        replace o0 : V.cell? ⟨zm, 0, none⟩ = some (.slice Am nm cm) := o0
        replace o1 : V.cell? ⟨zm, 1, none⟩ = some (.slice Bm nm dm) := o1
        obtain ⟨d0, d1, d2, d3, d4⟩ := h5
        clear hb5 hy hy5 hny c0 c1 c2 c3 c4 HB HST
        by_cases hw1 : y0 = 1
        · subst hw1
          have HM := make_any HSTV.out.X HSTV.out.bs y1 y2 y3 y4
          have HRM := fun (wx : World) (hr : RefAt wx S (.slice Am nm cm) (.slice Bm nm dm) H) (hs : ∀ b, S b → b < wx.heap.size) => rmake_any hr hs HSTV.out.X.good y1 y2 y3 y4 HIN.out.a HIN.out.b HIN.out.c HIN.out.d
          obtain ⟨⟨H3, m1, m2⟩, hmk⟩ : ∃ r, r = makeM H y1 y2 y3 y4 := ⟨_, rfl⟩
          rw [← hmk] at HM HRM
          have HM := Lib.hid HM
          have HRM := Lib.hid HRM
          clear hmk o0 o1
          go_wp2_with fail
          refine HM.out.mono ?_
          rintro e w3 ⟨A3, rfl, X3, hb3, hf3, hn3⟩
          dsimp only at X3
          have HST3 := Lib.hid (HSTV.out.heap X3 hb3.size hf3 hn3)
          have HB3 := Lib.hid (HBV.out.trans (hb3.mono HBASE.out.2))
          have H53 := Lib.hid (H5.out.keep (hf3.at_ HYV.out HNY.out))
          have HY3 : Hid (y < w3.heap.size) := Lib.hid (Nat.lt_of_lt_of_le HYV.out hb3.size)
          have HRM := Lib.hid (HRM.out w3 HST3.out.ref (fun b hb => (HST3.out.s b hb).1))
          clear d0 d1 d2 d3 d4 X3 hb3 hf3 hn3 HM HSTV HBV H5 HYV HNY
          obtain ⟨d0, d1, d2, d3, d4⟩ := H53.out
          have o0 : w3.cell? ⟨zm, 0, none⟩ = some (.slice Am nm cm) := cell_of_row _ _ 0 _ _ (0, 0) HST3.out.row
          have o1 : w3.cell? ⟨zm, 1, none⟩ = some (.slice Bm nm dm) := cell_of_row _ _ 1 _ _ (0, 0) HST3.out.row
          go_wp2_with fail
          refine HRM.out.mono ?_
          rintro e w4 ⟨u1, u2, rfl, X4, hb4⟩
          clear d0 d1 d2 d3 d4 o0 o1
          dsimp only at X4
          obtain ⟨An, cn, Bn, dn, rfl, hcn, rfl, hdn⟩ := X4.form
          obtain ⟨nn, hnn⟩ : ∃ n, n = H3.length := ⟨_, rfl⟩
          rw [← hnn] at X4 hcn hdn ⊢
          clear hnn
          have hzr := (heap_alloc_old w4 (.cells #[.slice An nn cn, .slice Bn nn dn] 29) (Nat.lt_of_lt_of_le (heap_lt HST3.out.row) hb4.size)).trans ((hb4.block zm (heap_lt HST3.out.row)).trans HST3.out.row)
          have p0 := cell_of_row _ _ 0 _ _ (0, 0) hzr
          have p1 := cell_of_row _ _ 1 _ _ (0, 0) hzr
          have pf := fun k => frozen_of_row _ _ k _ _ hzr
          replace p0 : (w4.alloc (.cells #[.slice An nn cn, .slice Bn nn dn] 29)).cell? ⟨zm, 0, none⟩ = some (.slice Am nm cm) := p0
          replace p1 : (w4.alloc (.cells #[.slice An nn cn, .slice Bn nn dn] 29)).cell? ⟨zm, 1, none⟩ = some (.slice Bm nm dm) := p1
          obtain ⟨V2, hV2⟩ : ∃ V2, ((w4.alloc (.cells #[.slice An nn cn, .slice Bn nn dn] 29)).setCell ⟨zm, 0, none⟩ (.slice An nn cn)).setCell ⟨zm, 1, none⟩ (.slice Bn nn dn) = V2 := ⟨_, rfl⟩
          obtain ⟨hst2, hk2, hbz2⟩ := HST3.out.put hb4 X4 hV2
          have HST2 := Lib.hid hst2
          have HB2 := Lib.hid (HB3.out.trans (hbz2.mono HZW.out))
          have H52 := Lib.hid (H53.out.keep (hk2 y HY3.out hzy))
          have HY2 : Hid (y < V2.heap.size) := Lib.hid (Nat.lt_of_lt_of_le HY3.out hbz2.size)
          have HV2 := Lib.hid hV2
          clear hst2 hk2 hbz2 hb4 X4 hzr HB3 H53 HY3 hV2
          go_upto_region 18 with fail
          rw [HV2.out]
          clear p0 p1 pf HV2 hcm hdm
          obtain ⟨d0, d1, d2, d3, d4⟩ := H52.out
          have o0 : V2.cell? ⟨zm, 0, none⟩ = some (.slice An nn cn) := cell_of_row _ _ 0 _ _ (0, 0) HST2.out.row
          have o1 : V2.cell? ⟨zm, 1, none⟩ = some (.slice Bn nn dn) := cell_of_row _ _ 1 _ _ (0, 0) HST2.out.row
          have HL := load_any HST2.out.X y1 HIN1.out
          have HRL := fun (wx : World) (hb : Below V2.heap.size V2 wx) => rload_any (HST2.out.below hb).ref (fun b hb2 => ((HST2.out.below hb).s b hb2).1) HST2.out.X.good y1 HIN1.out
          have HOF := fun (wx : World) (hb : Below V2.heap.size V2 wx) => of_any (HST2.out.below hb).X y1 HIN1.out
          have HRO := fun (wx : World) (hb : Below V2.heap.size V2 wx) => rof_any (HST2.out.below hb).ref (fun b hb2 => ((HST2.out.below hb).s b hb2).1) HST2.out.X.good y1 HIN1.out
          obtain ⟨⟨⟨l0, l1⟩, lk⟩, hLw⟩ : ∃ L, L = loadM H3 y1 := ⟨_, rfl⟩
          obtain ⟨⟨t1, ⟨a1, s1, f1, p1⟩, k1⟩, hOf⟩ : ∃ L, L = ofM H3 y1 := ⟨_, rfl⟩
          rw [← hLw] at HL HRL
          rw [← hOf] at HOF HRO
          unfold LoadV wagg at HL HRL
          unfold OfV oagg at HOF HRO
          dsimp only at HL HRL HOF HRO
          have HL := Lib.hid HL
          have HRL := Lib.hid HRL
          have HOF := Lib.hid HOF
          have HRO := Lib.hid HRO
          clear hLw hOf
          have HD := Lib.hid (show V2.cell? ⟨y, 1, none⟩ = some (.int .i64 y1) ∧ y < V2.heap.size from ⟨H52.out.2.1, HY2.out⟩)
          have HZC := Lib.hid (show V2.cell? ⟨zm, 0, none⟩ = some _ ∧ V2.cell? ⟨zm, 1, none⟩ = some _ ∧ zm < V2.heap.size from ⟨o0, o1, heap_lt HST2.out.row⟩)
          have d1 := HD.out.1
          go_wp2_with fail
          refine HL.out.mono ?_
          rintro e w6 ⟨rfl, hb6⟩
          have hb6a := hb6.alloc hb6.size (.cells #[.int .i64 l0, .int .i64 l1] 40)
          have q0 := two_c0 w6 (.int .i64 l0) (.int .i64 l1) 40
          have q1 := two_c1 w6 (.int .i64 l0) (.int .i64 l1) 40
          have hz6 : w6.heap.size < (w6.alloc (.cells #[.int .i64 l0, .int .i64 l1] 40)).heap.size := by simp
          go_upto_region 26 with fail
          generalize w6.alloc (.cells #[.int .i64 l0, .int .i64 l1] 40) = V6 at hb6a q0 q1 hz6 ⊢
          obtain ⟨z6, e6⟩ : ∃ z, z = w6.heap.size := ⟨_, rfl⟩
          rw [← e6] at q0 q1 hz6 ⊢
          have HQ6 := Lib.hid (show V6.cell? ⟨z6, 0, none⟩ = some (.int .i64 l0) ∧ V6.cell? ⟨z6, 1, none⟩ = some (.int .i64 l1) ∧ z6 < V6.heap.size from ⟨q0, q1, hz6⟩)
          have HB6 := Lib.hid hb6a
          clear hb6 hb6a e6 q0 q1 hz6 d1 o0 o1 HL d0 d2 d3 d4
          have d1 := (HB6.out.cell (p := ⟨y, 1, none⟩) HD.out.2).trans HD.out.1
          have o0 := (HB6.out.cell (p := ⟨zm, 0, none⟩) HZC.out.2.2).trans HZC.out.1
          have o1 := (HB6.out.cell (p := ⟨zm, 1, none⟩) HZC.out.2.2).trans HZC.out.2.1
          go_wp2_with fail
          refine (HRL.out V6 HB6.out).mono ?_
          rintro e w7 ⟨rfl, hb7⟩
          have hb7a := hb7.alloc hb7.size (.cells #[.int .i64 l0, .int .i64 l1] 40)
          have q0 := two_c0 w7 (.int .i64 l0) (.int .i64 l1) 40
          have q1 := two_c1 w7 (.int .i64 l0) (.int .i64 l1) 40
          have hz6 : w7.heap.size < (w7.alloc (.cells #[.int .i64 l0, .int .i64 l1] 40)).heap.size := by simp
          go_upto_region 27 with fail
          generalize w7.alloc (.cells #[.int .i64 l0, .int .i64 l1] 40) = V7 at hb7a q0 q1 hz6 ⊢
          obtain ⟨z7, e6⟩ : ∃ z, z = w7.heap.size := ⟨_, rfl⟩
          rw [← e6] at q0 q1 hz6 ⊢
          have HQ7 := Lib.hid (show V7.cell? ⟨z7, 0, none⟩ = some (.int .i64 l0) ∧ V7.cell? ⟨z7, 1, none⟩ = some (.int .i64 l1) ∧ z7 < V7.heap.size from ⟨q0, q1, hz6⟩)
          have HQ67 := Lib.hid (show V7.cell? ⟨z6, 0, none⟩ = some (.int .i64 l0) ∧ V7.cell? ⟨z6, 1, none⟩ = some (.int .i64 l1) ∧ z6 < V7.heap.size from ⟨(hb7a.cell (p := ⟨z6, 0, none⟩) HQ6.out.2.2).trans HQ6.out.1, (hb7a.cell (p := ⟨z6, 1, none⟩) HQ6.out.2.2).trans HQ6.out.2.1, Nat.lt_of_lt_of_le HQ6.out.2.2 hb7a.size⟩)
          have HB7 := Lib.hid (HB6.out.trans (hb7a.mono HB6.out.size))
          clear hb7 hb7a e6 q0 q1 hz6 d1 o0 o1 HRL HB6 HQ6
          have d1 := (HB7.out.cell (p := ⟨y, 1, none⟩) HD.out.2).trans HD.out.1
          go_wp2_with fail
          refine (HOF.out V7 HB7.out).mono ?_
          rintro e w8 ⟨rfl, hb8⟩
          have hb8a := hb8.alloc hb8.size (.cells #[.int .i64 (a1 : Nat), .int .i64 (s1 : Nat), .int .i64 f1, .int .i64 p1] 45)
          have q0 := four_c0 w8 (.int .i64 (a1 : Nat)) (.int .i64 (s1 : Nat)) (.int .i64 f1) (.int .i64 p1) 45
          have q1 := four_c1 w8 (.int .i64 (a1 : Nat)) (.int .i64 (s1 : Nat)) (.int .i64 f1) (.int .i64 p1) 45
          have q2 := four_c2 w8 (.int .i64 (a1 : Nat)) (.int .i64 (s1 : Nat)) (.int .i64 f1) (.int .i64 p1) 45
          have q3 := four_c3 w8 (.int .i64 (a1 : Nat)) (.int .i64 (s1 : Nat)) (.int .i64 f1) (.int .i64 p1) 45
          have hz6 : w8.heap.size < (w8.alloc (.cells #[.int .i64 (a1 : Nat), .int .i64 (s1 : Nat), .int .i64 f1, .int .i64 p1] 45)).heap.size := by simp
          go_upto_region 28 with fail
          generalize w8.alloc (.cells #[.int .i64 (a1 : Nat), .int .i64 (s1 : Nat), .int .i64 f1, .int .i64 p1] 45) = V8 at hb8a q0 q1 q2 q3 hz6 ⊢
          obtain ⟨z8, e6⟩ : ∃ z, z = w8.heap.size := ⟨_, rfl⟩
          rw [← e6] at q0 q1 q2 q3 hz6 ⊢
          have HQ8 := Lib.hid (show V8.cell? ⟨z8, 0, none⟩ = some _ ∧ V8.cell? ⟨z8, 1, none⟩ = some _ ∧ V8.cell? ⟨z8, 2, none⟩ = some _ ∧ V8.cell? ⟨z8, 3, none⟩ = some _ ∧ z8 < V8.heap.size from ⟨q0, q1, q2, q3, hz6⟩)
          have HB78 := Lib.hid hb8a
          have HB8 := Lib.hid (HB7.out.trans (hb8a.mono HB7.out.size))
          clear hb8 hb8a e6 q0 q1 q2 q3 hz6 d1 HOF HB7
          have d1 := (HB8.out.cell (p := ⟨y, 1, none⟩) HD.out.2).trans HD.out.1
          have o0 := (HB8.out.cell (p := ⟨zm, 0, none⟩) HZC.out.2.2).trans HZC.out.1
          have o1 := (HB8.out.cell (p := ⟨zm, 1, none⟩) HZC.out.2.2).trans HZC.out.2.1
          go_wp2_with fail
          refine (HRO.out V8 HB8.out).mono ?_
          rintro e w9 ⟨rfl, hb9⟩
          have hb9a := hb9.alloc hb9.size (.cells #[.int .i64 (a1 : Nat), .int .i64 (s1 : Nat), .int .i64 f1, .int .i64 p1] 45)
          have q0 := four_c0 w9 (.int .i64 (a1 : Nat)) (.int .i64 (s1 : Nat)) (.int .i64 f1) (.int .i64 p1) 45
          have q1 := four_c1 w9 (.int .i64 (a1 : Nat)) (.int .i64 (s1 : Nat)) (.int .i64 f1) (.int .i64 p1) 45
          have q2 := four_c2 w9 (.int .i64 (a1 : Nat)) (.int .i64 (s1 : Nat)) (.int .i64 f1) (.int .i64 p1) 45
          have q3 := four_c3 w9 (.int .i64 (a1 : Nat)) (.int .i64 (s1 : Nat)) (.int .i64 f1) (.int .i64 p1) 45
          go_upto_region 29 with fail
          generalize w9.alloc (.cells #[.int .i64 (a1 : Nat), .int .i64 (s1 : Nat), .int .i64 f1, .int .i64 p1] 45) = V9 at hb9a q0 q1 q2 q3 ⊢
          obtain ⟨z9, e6⟩ : ∃ z, z = w9.heap.size := ⟨_, rfl⟩
          rw [← e6] at q0 q1 q2 q3 ⊢
          have r0 := (hb9a.cell (p := ⟨z8, 0, none⟩) HQ8.out.2.2.2.2).trans HQ8.out.1
          have r1 := (hb9a.cell (p := ⟨z8, 1, none⟩) HQ8.out.2.2.2.2).trans HQ8.out.2.1
          have r2 := (hb9a.cell (p := ⟨z8, 2, none⟩) HQ8.out.2.2.2.2).trans HQ8.out.2.2.1
          have r3 := (hb9a.cell (p := ⟨z8, 3, none⟩) HQ8.out.2.2.2.2).trans HQ8.out.2.2.2.1
          have hb79 := HB78.out.trans (hb9a.mono HB78.out.size)
          have s0 := (hb79.cell (p := ⟨z6, 0, none⟩) HQ67.out.2.2).trans HQ67.out.1
          have s1' := (hb79.cell (p := ⟨z6, 1, none⟩) HQ67.out.2.2).trans HQ67.out.2.1
          have u0 := (hb79.cell (p := ⟨z7, 0, none⟩) HQ7.out.2.2).trans HQ7.out.1
          have u1' := (hb79.cell (p := ⟨z7, 1, none⟩) HQ7.out.2.2).trans HQ7.out.2.1
          have HB9 := Lib.hid (HB8.out.trans (hb9a.mono HB8.out.size))
          have HST9 := Lib.hid (HST2.out.below HB9.out)
          have HBF := Lib.hid (HB2.out.trans (HB9.out.mono HB2.out.size))
          clear hb9 hb9a hb79 e6 d1 o0 o1 HRO HB8 HQ67 HQ7 HQ8 HB78 HZC HD
          have hne : ∀ w : World, (binOp .neq 40 (.agg #[.int .i64 l0, .int .i64 l1]) (.agg #[.int .i64 l0, .int .i64 l1])).run Try.prog w = .ok (.bool false) w := fun w => by rw [neqW]; simp
          have hno : ∀ w : World, (binOp .neq 45 (.agg #[.int .i64 (a1 : Nat), .int .i64 (s1 : Nat), .int .i64 f1, .int .i64 p1]) (.agg #[.int .i64 (a1 : Nat), .int .i64 (s1 : Nat), .int .i64 f1, .int .i64 p1])).run Try.prog w = .ok (.bool false) w := fun w => by rw [neqO]; simp
          go_wp2
          go_roundw
          case rel => exact ⟨j + 1, _, _, _, _, _, by omega, by go_num, HST9, HBF⟩
          case measure => simp [intOf]; omega
        · have hw1' : (y0 == 1) = false := by simp [hw1]
          by_cases hw2 : y0 = 2
          · subst hw2
            have HRM := rstore_any HSTV.out.ref (fun b hb => (HSTV.out.s b hb).1) HSTV.out.X.good y1 HIN1.out ⟨y2, y3⟩
            have HM := fun (wx : World) (X : HpAt wx base h g c A' H) (hb : base ≤ wx.heap.size) => store_any X hb y1 HIN1.out ⟨y2, y3⟩
            obtain ⟨⟨H3, m2⟩, hmk⟩ : ∃ r, r = storeM H y1 ⟨y2, y3⟩ := ⟨_, rfl⟩
            rw [← hmk] at HM HRM
            unfold wagg at HM HRM
            dsimp only at HM HRM
            have HM := Lib.hid HM
            have HRM := Lib.hid HRM
            clear hmk
            go_wp2_with fail
            refine HRM.out.mono ?_
            rintro e w4 ⟨u1, u2, rfl, X4, hb4⟩
            clear d0 d1 d2 d3 d4 o0 o1 HRM
            dsimp only at X4
            obtain ⟨An, cn, Bn, dn, rfl, hcn, rfl, hdn⟩ := X4.form
            obtain ⟨nn, hnn⟩ : ∃ n, n = H3.length := ⟨_, rfl⟩
            rw [← hnn] at X4 hcn hdn ⊢
            clear hnn
            have hzr := (heap_alloc_old w4 (.cells #[.slice An nn cn, .slice Bn nn dn] 29) (Nat.lt_of_lt_of_le (heap_lt HSTV.out.row) hb4.size)).trans ((hb4.block zm (heap_lt HSTV.out.row)).trans HSTV.out.row)
            have p0 := cell_of_row _ _ 0 _ _ (0, 0) hzr
            have p1 := cell_of_row _ _ 1 _ _ (0, 0) hzr
            have pf := fun k => frozen_of_row _ _ k _ _ hzr
            replace p0 : (w4.alloc (.cells #[.slice An nn cn, .slice Bn nn dn] 29)).cell? ⟨zm, 0, none⟩ = some (.slice Am nm cm) := p0
            replace p1 : (w4.alloc (.cells #[.slice An nn cn, .slice Bn nn dn] 29)).cell? ⟨zm, 1, none⟩ = some (.slice Bm nm dm) := p1
            obtain ⟨V1, hV1⟩ : ∃ V1, ((w4.alloc (.cells #[.slice An nn cn, .slice Bn nn dn] 29)).setCell ⟨zm, 0, none⟩ (.slice An nn cn)).setCell ⟨zm, 1, none⟩ (.slice Bn nn dn) = V1 := ⟨_, rfl⟩
            obtain ⟨hst2, hk2, hbz2⟩ := HSTV.out.put hb4 X4 hV1
            have HST3 := Lib.hid hst2
            have HB3 := Lib.hid (HBV.out.trans (hbz2.mono HZW.out))
            have H53 := Lib.hid (H5.out.keep (hk2 y HYV.out hzy))
            have HY3 : Hid (y < V1.heap.size) := Lib.hid (Nat.lt_of_lt_of_le HYV.out hbz2.size)
            have HV1 := Lib.hid hV1
            clear hst2 hk2 hbz2 hb4 X4 hzr HBV H5 HYV hV1
            go_upto_region 23 with fail
            rw [HV1.out]
            clear p0 p1 pf HV1 hcm hdm HSTV
            obtain ⟨d0, d1, d2, d3, d4⟩ := H53.out
            have HM := Lib.hid (HM.out V1 HST3.out.X HST3.out.bs)
            go_wp2_with fail
            refine HM.out.mono ?_
            rintro e V2 ⟨rfl, X3, hb3, hf3⟩
            dsimp only at X3
            have HST2 := Lib.hid (HST3.out.heap X3 hb3.size hf3 (fun _ _ h => h))
            have HB2 := Lib.hid (HB3.out.trans (hb3.mono HBASE.out.2))
            have H52 := Lib.hid (H53.out.keep (hf3.at_ HY3.out HNY.out))
            have HY2 : Hid (y < V2.heap.size) := Lib.hid (Nat.lt_of_lt_of_le HY3.out hb3.size)
            clear d0 d1 d2 d3 d4 X3 hb3 hf3 HM HST3 HB3 H53 HY3
            obtain ⟨d0, d1, d2, d3, d4⟩ := H52.out
            have o0 : V2.cell? ⟨zm, 0, none⟩ = some (.slice An nn cn) := cell_of_row _ _ 0 _ _ (0, 0) HST2.out.row
            have o1 : V2.cell? ⟨zm, 1, none⟩ = some (.slice Bn nn dn) := cell_of_row _ _ 1 _ _ (0, 0) HST2.out.row
            have HL := load_any HST2.out.X y1 HIN1.out
            have HRL := fun (wx : World) (hb : Below V2.heap.size V2 wx) => rload_any (HST2.out.below hb).ref (fun b hb2 => ((HST2.out.below hb).s b hb2).1) HST2.out.X.good y1 HIN1.out
            have HOF := fun (wx : World) (hb : Below V2.heap.size V2 wx) => of_any (HST2.out.below hb).X y1 HIN1.out
            have HRO := fun (wx : World) (hb : Below V2.heap.size V2 wx) => rof_any (HST2.out.below hb).ref (fun b hb2 => ((HST2.out.below hb).s b hb2).1) HST2.out.X.good y1 HIN1.out
            obtain ⟨⟨⟨l0, l1⟩, lk⟩, hLw⟩ : ∃ L, L = loadM H3 y1 := ⟨_, rfl⟩
            obtain ⟨⟨t1, ⟨a1, s1, f1, p1⟩, k1⟩, hOf⟩ : ∃ L, L = ofM H3 y1 := ⟨_, rfl⟩
            rw [← hLw] at HL HRL
            rw [← hOf] at HOF HRO
            unfold LoadV wagg at HL HRL
            unfold OfV oagg at HOF HRO
            dsimp only at HL HRL HOF HRO
            have HL := Lib.hid HL
            have HRL := Lib.hid HRL
            have HOF := Lib.hid HOF
            have HRO := Lib.hid HRO
            clear hLw hOf
            have HD := Lib.hid (show V2.cell? ⟨y, 1, none⟩ = some (.int .i64 y1) ∧ y < V2.heap.size from ⟨H52.out.2.1, HY2.out⟩)
            have HZC := Lib.hid (show V2.cell? ⟨zm, 0, none⟩ = some _ ∧ V2.cell? ⟨zm, 1, none⟩ = some _ ∧ zm < V2.heap.size from ⟨o0, o1, heap_lt HST2.out.row⟩)
            have d1 := HD.out.1
            go_wp2_with fail
            refine HL.out.mono ?_
            rintro e w6 ⟨rfl, hb6⟩
            have hb6a := hb6.alloc hb6.size (.cells #[.int .i64 l0, .int .i64 l1] 40)
            have q0 := two_c0 w6 (.int .i64 l0) (.int .i64 l1) 40
            have q1 := two_c1 w6 (.int .i64 l0) (.int .i64 l1) 40
            have hz6 : w6.heap.size < (w6.alloc (.cells #[.int .i64 l0, .int .i64 l1] 40)).heap.size := by simp
            go_upto_region 26 with fail
            generalize w6.alloc (.cells #[.int .i64 l0, .int .i64 l1] 40) = V6 at hb6a q0 q1 hz6 ⊢
            obtain ⟨z6, e6⟩ : ∃ z, z = w6.heap.size := ⟨_, rfl⟩
            rw [← e6] at q0 q1 hz6 ⊢
            have HQ6 := Lib.hid (show V6.cell? ⟨z6, 0, none⟩ = some (.int .i64 l0) ∧ V6.cell? ⟨z6, 1, none⟩ = some (.int .i64 l1) ∧ z6 < V6.heap.size from ⟨q0, q1, hz6⟩)
            have HB6 := Lib.hid hb6a
            clear hb6 hb6a e6 q0 q1 hz6 d1 o0 o1 HL d0 d2 d3 d4
            have d1 := (HB6.out.cell (p := ⟨y, 1, none⟩) HD.out.2).trans HD.out.1
            have o0 := (HB6.out.cell (p := ⟨zm, 0, none⟩) HZC.out.2.2).trans HZC.out.1
            have o1 := (HB6.out.cell (p := ⟨zm, 1, none⟩) HZC.out.2.2).trans HZC.out.2.1
            go_wp2_with fail
            refine (HRL.out V6 HB6.out).mono ?_
            rintro e w7 ⟨rfl, hb7⟩
            have hb7a := hb7.alloc hb7.size (.cells #[.int .i64 l0, .int .i64 l1] 40)
            have q0 := two_c0 w7 (.int .i64 l0) (.int .i64 l1) 40
            have q1 := two_c1 w7 (.int .i64 l0) (.int .i64 l1) 40
            have hz6 : w7.heap.size < (w7.alloc (.cells #[.int .i64 l0, .int .i64 l1] 40)).heap.size := by simp
            go_upto_region 27 with fail
            generalize w7.alloc (.cells #[.int .i64 l0, .int .i64 l1] 40) = V7 at hb7a q0 q1 hz6 ⊢
            obtain ⟨z7, e6⟩ : ∃ z, z = w7.heap.size := ⟨_, rfl⟩
            rw [← e6] at q0 q1 hz6 ⊢
            have HQ7 := Lib.hid (show V7.cell? ⟨z7, 0, none⟩ = some (.int .i64 l0) ∧ V7.cell? ⟨z7, 1, none⟩ = some (.int .i64 l1) ∧ z7 < V7.heap.size from ⟨q0, q1, hz6⟩)
            have HQ67 := Lib.hid (show V7.cell? ⟨z6, 0, none⟩ = some (.int .i64 l0) ∧ V7.cell? ⟨z6, 1, none⟩ = some (.int .i64 l1) ∧ z6 < V7.heap.size from ⟨(hb7a.cell (p := ⟨z6, 0, none⟩) HQ6.out.2.2).trans HQ6.out.1, (hb7a.cell (p := ⟨z6, 1, none⟩) HQ6.out.2.2).trans HQ6.out.2.1, Nat.lt_of_lt_of_le HQ6.out.2.2 hb7a.size⟩)
            have HB7 := Lib.hid (HB6.out.trans (hb7a.mono HB6.out.size))
            clear hb7 hb7a e6 q0 q1 hz6 d1 o0 o1 HRL HB6 HQ6
            have d1 := (HB7.out.cell (p := ⟨y, 1, none⟩) HD.out.2).trans HD.out.1
            go_wp2_with fail
            refine (HOF.out V7 HB7.out).mono ?_
            rintro e w8 ⟨rfl, hb8⟩
            have hb8a := hb8.alloc hb8.size (.cells #[.int .i64 (a1 : Nat), .int .i64 (s1 : Nat), .int .i64 f1, .int .i64 p1] 45)
            have q0 := four_c0 w8 (.int .i64 (a1 : Nat)) (.int .i64 (s1 : Nat)) (.int .i64 f1) (.int .i64 p1) 45
            have q1 := four_c1 w8 (.int .i64 (a1 : Nat)) (.int .i64 (s1 : Nat)) (.int .i64 f1) (.int .i64 p1) 45
            have q2 := four_c2 w8 (.int .i64 (a1 : Nat)) (.int .i64 (s1 : Nat)) (.int .i64 f1) (.int .i64 p1) 45
            have q3 := four_c3 w8 (.int .i64 (a1 : Nat)) (.int .i64 (s1 : Nat)) (.int .i64 f1) (.int .i64 p1) 45
            have hz6 : w8.heap.size < (w8.alloc (.cells #[.int .i64 (a1 : Nat), .int .i64 (s1 : Nat), .int .i64 f1, .int .i64 p1] 45)).heap.size := by simp
            go_upto_region 28 with fail
            generalize w8.alloc (.cells #[.int .i64 (a1 : Nat), .int .i64 (s1 : Nat), .int .i64 f1, .int .i64 p1] 45) = V8 at hb8a q0 q1 q2 q3 hz6 ⊢
            obtain ⟨z8, e6⟩ : ∃ z, z = w8.heap.size := ⟨_, rfl⟩
            rw [← e6] at q0 q1 q2 q3 hz6 ⊢
            have HQ8 := Lib.hid (show V8.cell? ⟨z8, 0, none⟩ = some _ ∧ V8.cell? ⟨z8, 1, none⟩ = some _ ∧ V8.cell? ⟨z8, 2, none⟩ = some _ ∧ V8.cell? ⟨z8, 3, none⟩ = some _ ∧ z8 < V8.heap.size from ⟨q0, q1, q2, q3, hz6⟩)
            have HB78 := Lib.hid hb8a
            have HB8 := Lib.hid (HB7.out.trans (hb8a.mono HB7.out.size))
            clear hb8 hb8a e6 q0 q1 q2 q3 hz6 d1 HOF HB7
            have d1 := (HB8.out.cell (p := ⟨y, 1, none⟩) HD.out.2).trans HD.out.1
            have o0 := (HB8.out.cell (p := ⟨zm, 0, none⟩) HZC.out.2.2).trans HZC.out.1
            have o1 := (HB8.out.cell (p := ⟨zm, 1, none⟩) HZC.out.2.2).trans HZC.out.2.1
            go_wp2_with fail
            refine (HRO.out V8 HB8.out).mono ?_
            rintro e w9 ⟨rfl, hb9⟩
            have hb9a := hb9.alloc hb9.size (.cells #[.int .i64 (a1 : Nat), .int .i64 (s1 : Nat), .int .i64 f1, .int .i64 p1] 45)
            have q0 := four_c0 w9 (.int .i64 (a1 : Nat)) (.int .i64 (s1 : Nat)) (.int .i64 f1) (.int .i64 p1) 45
            have q1 := four_c1 w9 (.int .i64 (a1 : Nat)) (.int .i64 (s1 : Nat)) (.int .i64 f1) (.int .i64 p1) 45
            have q2 := four_c2 w9 (.int .i64 (a1 : Nat)) (.int .i64 (s1 : Nat)) (.int .i64 f1) (.int .i64 p1) 45
            have q3 := four_c3 w9 (.int .i64 (a1 : Nat)) (.int .i64 (s1 : Nat)) (.int .i64 f1) (.int .i64 p1) 45
            go_upto_region 29 with fail
            generalize w9.alloc (.cells #[.int .i64 (a1 : Nat), .int .i64 (s1 : Nat), .int .i64 f1, .int .i64 p1] 45) = V9 at hb9a q0 q1 q2 q3 ⊢
            obtain ⟨z9, e6⟩ : ∃ z, z = w9.heap.size := ⟨_, rfl⟩
            rw [← e6] at q0 q1 q2 q3 ⊢
            have r0 := (hb9a.cell (p := ⟨z8, 0, none⟩) HQ8.out.2.2.2.2).trans HQ8.out.1
            have r1 := (hb9a.cell (p := ⟨z8, 1, none⟩) HQ8.out.2.2.2.2).trans HQ8.out.2.1
            have r2 := (hb9a.cell (p := ⟨z8, 2, none⟩) HQ8.out.2.2.2.2).trans HQ8.out.2.2.1
            have r3 := (hb9a.cell (p := ⟨z8, 3, none⟩) HQ8.out.2.2.2.2).trans HQ8.out.2.2.2.1
            have hb79 := HB78.out.trans (hb9a.mono HB78.out.size)
            have s0 := (hb79.cell (p := ⟨z6, 0, none⟩) HQ67.out.2.2).trans HQ67.out.1
            have s1' := (hb79.cell (p := ⟨z6, 1, none⟩) HQ67.out.2.2).trans HQ67.out.2.1
            have u0 := (hb79.cell (p := ⟨z7, 0, none⟩) HQ7.out.2.2).trans HQ7.out.1
            have u1' := (hb79.cell (p := ⟨z7, 1, none⟩) HQ7.out.2.2).trans HQ7.out.2.1
            have HB9 := Lib.hid (HB8.out.trans (hb9a.mono HB8.out.size))
            have HST9 := Lib.hid (HST2.out.below HB9.out)
            have HBF := Lib.hid (HB2.out.trans (HB9.out.mono HB2.out.size))
            clear hb9 hb9a hb79 e6 d1 o0 o1 HRO HB8 HQ67 HQ7 HQ8 HB78 HZC HD
            have hne : ∀ w : World, (binOp .neq 40 (.agg #[.int .i64 l0, .int .i64 l1]) (.agg #[.int .i64 l0, .int .i64 l1])).run Try.prog w = .ok (.bool false) w := fun w => by rw [neqW]; simp
            have hno : ∀ w : World, (binOp .neq 45 (.agg #[.int .i64 (a1 : Nat), .int .i64 (s1 : Nat), .int .i64 f1, .int .i64 p1]) (.agg #[.int .i64 (a1 : Nat), .int .i64 (s1 : Nat), .int .i64 f1, .int .i64 p1])).run Try.prog w = .ok (.bool false) w := fun w => by rw [neqO]; simp
            go_wp2
            go_roundw
            case rel => exact ⟨j + 1, _, _, _, _, _, by omega, by go_num, HST9, HBF⟩
            case measure => simp [intOf]; omega
          · have hw2' : (y0 == 2) = false := by simp [hw2]
            have HL := load_any HSTV.out.X y1 HIN1.out
            have HRL := fun (wx : World) (hb : Below V.heap.size V wx) => rload_any (HSTV.out.below hb).ref (fun b hb2 => ((HSTV.out.below hb).s b hb2).1) HSTV.out.X.good y1 HIN1.out
            have HOF := fun (wx : World) (hb : Below V.heap.size V wx) => of_any (HSTV.out.below hb).X y1 HIN1.out
            have HRO := fun (wx : World) (hb : Below V.heap.size V wx) => rof_any (HSTV.out.below hb).ref (fun b hb2 => ((HSTV.out.below hb).s b hb2).1) HSTV.out.X.good y1 HIN1.out
            obtain ⟨⟨⟨l0, l1⟩, lk⟩, hLw⟩ : ∃ L, L = loadM H y1 := ⟨_, rfl⟩
            obtain ⟨⟨t1, ⟨a1, s1, f1, p1⟩, k1⟩, hOf⟩ : ∃ L, L = ofM H y1 := ⟨_, rfl⟩
            rw [← hLw] at HL HRL
            rw [← hOf] at HOF HRO
            unfold LoadV wagg at HL HRL
            unfold OfV oagg at HOF HRO
            dsimp only at HL HRL HOF HRO
            have HL := Lib.hid HL
            have HRL := Lib.hid HRL
            have HOF := Lib.hid HOF
            have HRO := Lib.hid HRO
            clear hLw hOf
            have HD := Lib.hid (show V.cell? ⟨y, 1, none⟩ = some (.int .i64 y1) ∧ y < V.heap.size from ⟨H5.out.2.1, HYV.out⟩)
            have HZC := Lib.hid (show V.cell? ⟨zm, 0, none⟩ = some _ ∧ V.cell? ⟨zm, 1, none⟩ = some _ ∧ zm < V.heap.size from ⟨o0, o1, heap_lt HSTV.out.row⟩)
            have d1 := HD.out.1
            go_wp2_with fail
            refine HL.out.mono ?_
            rintro e w6 ⟨rfl, hb6⟩
            have hb6a := hb6.alloc hb6.size (.cells #[.int .i64 l0, .int .i64 l1] 40)
            have q0 := two_c0 w6 (.int .i64 l0) (.int .i64 l1) 40
            have q1 := two_c1 w6 (.int .i64 l0) (.int .i64 l1) 40
            have hz6 : w6.heap.size < (w6.alloc (.cells #[.int .i64 l0, .int .i64 l1] 40)).heap.size := by simp
            go_upto_region 26 with fail
            generalize w6.alloc (.cells #[.int .i64 l0, .int .i64 l1] 40) = V6 at hb6a q0 q1 hz6 ⊢
            obtain ⟨z6, e6⟩ : ∃ z, z = w6.heap.size := ⟨_, rfl⟩
            rw [← e6] at q0 q1 hz6 ⊢
            have HQ6 := Lib.hid (show V6.cell? ⟨z6, 0, none⟩ = some (.int .i64 l0) ∧ V6.cell? ⟨z6, 1, none⟩ = some (.int .i64 l1) ∧ z6 < V6.heap.size from ⟨q0, q1, hz6⟩)
            have HB6 := Lib.hid hb6a
            clear hb6 hb6a e6 q0 q1 hz6 d1 o0 o1 HL d0 d2 d3 d4
            have d1 := (HB6.out.cell (p := ⟨y, 1, none⟩) HD.out.2).trans HD.out.1
            have o0 := (HB6.out.cell (p := ⟨zm, 0, none⟩) HZC.out.2.2).trans HZC.out.1
            have o1 := (HB6.out.cell (p := ⟨zm, 1, none⟩) HZC.out.2.2).trans HZC.out.2.1
            go_wp2_with fail
            refine (HRL.out V6 HB6.out).mono ?_
            rintro e w7 ⟨rfl, hb7⟩
            have hb7a := hb7.alloc hb7.size (.cells #[.int .i64 l0, .int .i64 l1] 40)
            have q0 := two_c0 w7 (.int .i64 l0) (.int .i64 l1) 40
            have q1 := two_c1 w7 (.int .i64 l0) (.int .i64 l1) 40
            have hz6 : w7.heap.size < (w7.alloc (.cells #[.int .i64 l0, .int .i64 l1] 40)).heap.size := by simp
            go_upto_region 27 with fail
            generalize w7.alloc (.cells #[.int .i64 l0, .int .i64 l1] 40) = V7 at hb7a q0 q1 hz6 ⊢
            obtain ⟨z7, e6⟩ : ∃ z, z = w7.heap.size := ⟨_, rfl⟩
            rw [← e6] at q0 q1 hz6 ⊢
            have HQ7 := Lib.hid (show V7.cell? ⟨z7, 0, none⟩ = some (.int .i64 l0) ∧ V7.cell? ⟨z7, 1, none⟩ = some (.int .i64 l1) ∧ z7 < V7.heap.size from ⟨q0, q1, hz6⟩)
            have HQ67 := Lib.hid (show V7.cell? ⟨z6, 0, none⟩ = some (.int .i64 l0) ∧ V7.cell? ⟨z6, 1, none⟩ = some (.int .i64 l1) ∧ z6 < V7.heap.size from ⟨(hb7a.cell (p := ⟨z6, 0, none⟩) HQ6.out.2.2).trans HQ6.out.1, (hb7a.cell (p := ⟨z6, 1, none⟩) HQ6.out.2.2).trans HQ6.out.2.1, Nat.lt_of_lt_of_le HQ6.out.2.2 hb7a.size⟩)
            have HB7 := Lib.hid (HB6.out.trans (hb7a.mono HB6.out.size))
            clear hb7 hb7a e6 q0 q1 hz6 d1 o0 o1 HRL HB6 HQ6
            have d1 := (HB7.out.cell (p := ⟨y, 1, none⟩) HD.out.2).trans HD.out.1
            go_wp2_with fail
            refine (HOF.out V7 HB7.out).mono ?_
            rintro e w8 ⟨rfl, hb8⟩
            have hb8a := hb8.alloc hb8.size (.cells #[.int .i64 (a1 : Nat), .int .i64 (s1 : Nat), .int .i64 f1, .int .i64 p1] 45)
            have q0 := four_c0 w8 (.int .i64 (a1 : Nat)) (.int .i64 (s1 : Nat)) (.int .i64 f1) (.int .i64 p1) 45
            have q1 := four_c1 w8 (.int .i64 (a1 : Nat)) (.int .i64 (s1 : Nat)) (.int .i64 f1) (.int .i64 p1) 45
            have q2 := four_c2 w8 (.int .i64 (a1 : Nat)) (.int .i64 (s1 : Nat)) (.int .i64 f1) (.int .i64 p1) 45
            have q3 := four_c3 w8 (.int .i64 (a1 : Nat)) (.int .i64 (s1 : Nat)) (.int .i64 f1) (.int .i64 p1) 45
            have hz6 : w8.heap.size < (w8.alloc (.cells #[.int .i64 (a1 : Nat), .int .i64 (s1 : Nat), .int .i64 f1, .int .i64 p1] 45)).heap.size := by simp
            go_upto_region 28 with fail
            generalize w8.alloc (.cells #[.int .i64 (a1 : Nat), .int .i64 (s1 : Nat), .int .i64 f1, .int .i64 p1] 45) = V8 at hb8a q0 q1 q2 q3 hz6 ⊢
            obtain ⟨z8, e6⟩ : ∃ z, z = w8.heap.size := ⟨_, rfl⟩
            rw [← e6] at q0 q1 q2 q3 hz6 ⊢
            have HQ8 := Lib.hid (show V8.cell? ⟨z8, 0, none⟩ = some _ ∧ V8.cell? ⟨z8, 1, none⟩ = some _ ∧ V8.cell? ⟨z8, 2, none⟩ = some _ ∧ V8.cell? ⟨z8, 3, none⟩ = some _ ∧ z8 < V8.heap.size from ⟨q0, q1, q2, q3, hz6⟩)
            have HB78 := Lib.hid hb8a
            have HB8 := Lib.hid (HB7.out.trans (hb8a.mono HB7.out.size))
            clear hb8 hb8a e6 q0 q1 q2 q3 hz6 d1 HOF HB7
            have d1 := (HB8.out.cell (p := ⟨y, 1, none⟩) HD.out.2).trans HD.out.1
            have o0 := (HB8.out.cell (p := ⟨zm, 0, none⟩) HZC.out.2.2).trans HZC.out.1
            have o1 := (HB8.out.cell (p := ⟨zm, 1, none⟩) HZC.out.2.2).trans HZC.out.2.1
            go_wp2_with fail
            refine (HRO.out V8 HB8.out).mono ?_
            rintro e w9 ⟨rfl, hb9⟩
            have hb9a := hb9.alloc hb9.size (.cells #[.int .i64 (a1 : Nat), .int .i64 (s1 : Nat), .int .i64 f1, .int .i64 p1] 45)
            have q0 := four_c0 w9 (.int .i64 (a1 : Nat)) (.int .i64 (s1 : Nat)) (.int .i64 f1) (.int .i64 p1) 45
            have q1 := four_c1 w9 (.int .i64 (a1 : Nat)) (.int .i64 (s1 : Nat)) (.int .i64 f1) (.int .i64 p1) 45
            have q2 := four_c2 w9 (.int .i64 (a1 : Nat)) (.int .i64 (s1 : Nat)) (.int .i64 f1) (.int .i64 p1) 45
            have q3 := four_c3 w9 (.int .i64 (a1 : Nat)) (.int .i64 (s1 : Nat)) (.int .i64 f1) (.int .i64 p1) 45
            go_upto_region 29 with fail
            generalize w9.alloc (.cells #[.int .i64 (a1 : Nat), .int .i64 (s1 : Nat), .int .i64 f1, .int .i64 p1] 45) = V9 at hb9a q0 q1 q2 q3 ⊢
            obtain ⟨z9, e6⟩ : ∃ z, z = w9.heap.size := ⟨_, rfl⟩
            rw [← e6] at q0 q1 q2 q3 ⊢
            have r0 := (hb9a.cell (p := ⟨z8, 0, none⟩) HQ8.out.2.2.2.2).trans HQ8.out.1
            have r1 := (hb9a.cell (p := ⟨z8, 1, none⟩) HQ8.out.2.2.2.2).trans HQ8.out.2.1
            have r2 := (hb9a.cell (p := ⟨z8, 2, none⟩) HQ8.out.2.2.2.2).trans HQ8.out.2.2.1
            have r3 := (hb9a.cell (p := ⟨z8, 3, none⟩) HQ8.out.2.2.2.2).trans HQ8.out.2.2.2.1
            have hb79 := HB78.out.trans (hb9a.mono HB78.out.size)
            have s0 := (hb79.cell (p := ⟨z6, 0, none⟩) HQ67.out.2.2).trans HQ67.out.1
            have s1' := (hb79.cell (p := ⟨z6, 1, none⟩) HQ67.out.2.2).trans HQ67.out.2.1
            have u0 := (hb79.cell (p := ⟨z7, 0, none⟩) HQ7.out.2.2).trans HQ7.out.1
            have u1' := (hb79.cell (p := ⟨z7, 1, none⟩) HQ7.out.2.2).trans HQ7.out.2.1
            have HB9 := Lib.hid (HB8.out.trans (hb9a.mono HB8.out.size))
            have HST9 := Lib.hid (HSTV.out.below HB9.out)
            have HBF := Lib.hid (HBV.out.trans (HB9.out.mono HBV.out.size))
            clear hb9 hb9a hb79 e6 d1 o0 o1 HRO HB8 HQ67 HQ7 HQ8 HB78 HZC HD
            have hne : ∀ w : World, (binOp .neq 40 (.agg #[.int .i64 l0, .int .i64 l1]) (.agg #[.int .i64 l0, .int .i64 l1])).run Try.prog w = .ok (.bool false) w := fun w => by rw [neqW]; simp
            have hno : ∀ w : World, (binOp .neq 45 (.agg #[.int .i64 (a1 : Nat), .int .i64 (s1 : Nat), .int .i64 f1, .int .i64 p1]) (.agg #[.int .i64 (a1 : Nat), .int .i64 (s1 : Nat), .int .i64 f1, .int .i64 p1])).run Try.prog w = .ok (.bool false) w := fun w => by rw [neqO]; simp
            go_wp2
            go_roundw
            case rel => exact ⟨j + 1, _, _, _, _, _, by omega, by go_num, HST9, HBF⟩
            case measure => simp [intOf]; omega
      · obtain rfl : j = n := by omega
        go_wp2_with fail
        go_loopw [26] (fun x wr => ∃ t : Int, -1 ≤ t ∧ t ≤ 5 ∧ x = .int .i64 t ∧ Hid (St wr base h g c zm A' S (.slice Am nm cm) (.slice Bm nm dm) H H) ∧ Hid (Below w.heap.size w wr)) (fun x _ => (5 - intOf x).toNat)
        case atStart => exact ⟨-1, by omega, by omega, rfl, HST, HB⟩
        case round =>
          clear HST HB
          obtain ⟨wi, rfl⟩ : ∃ wi : World, wi = wr := ⟨_, rfl⟩
          obtain ⟨t, ht1, ht2, rfl, HST, HB⟩ := hrel
          by_cases hlt5 : t < 5
          · have hb2 : Below wi.heap.size wi ((wi.alloc (.cells #[] 40)).alloc (.cells #[] 45)) := ((Below.refl _ wi).alloc (Nat.le_refl _) _).alloc (by simp) _
            go_upto_region 36 with fail
            generalize (wi.alloc (.cells #[] 40)).alloc (.cells #[] 45) = V at hb2 ⊢
            obtain ⟨q1, hq1⟩ : ∃ q, q = wi.heap.size := ⟨_, rfl⟩
            have HSTV := Lib.hid (HST.out.below hb2)
            have HBV := Lib.hid (HB.out.trans (hb2.mono HB.out.size))
            rw [← hq1]
            clear hq1 hb2 HST HB
            have HWC := words_any HSTV.out.X t
            have HOC := fun (wx : World) (hb : Below V.heap.size V wx) => objects_any (HSTV.out.below hb).X t
            have o0 : V.cell? ⟨zm, 0, none⟩ = some (.slice Am nm cm) := cell_of_row _ _ 0 _ _ (0, 0) HSTV.out.row
            have o1 : V.cell? ⟨zm, 1, none⟩ = some (.slice Bm nm dm) := cell_of_row _ _ 1 _ _ (0, 0) HSTV.out.row
            by_cases h0 : 0 ≤ t
            · obtain ⟨k, rfl⟩ : ∃ k : Nat, t = k := ⟨t.toNat, by omega⟩
              by_cases hk : k < nm
              · have hkl : k < H.length := by rw [← HLEN.out]; exact hk
                have hl := HSTV.out.X.good.ws64 k
                have href := HSTV.out.ref
                rw [HLEN.out] at href
                obtain ⟨b, off, B, d, rfl, hb, hcw, hd, hlw⟩ := href.words hkl
                obtain ⟨b2, off2, B2, d2, rfl, hb2, hco, hd2, hlo⟩ := href.objects hkl
                rw [ws_in] at HWC
                rw [os_in] at HOC
                have HSW := Lib.hid (same_w hlw (fun b h2 => (HSTV.out.s b h2).1) hl.1)
                have HSO := Lib.hid (same_o hlo (fun b h2 => (HSTV.out.s b h2).1) hl.2)
                have HWC := Lib.hid HWC
                have HOC := Lib.hid HOC
                clear hlw hlo hl href hb hb2
                generalize (getM H k).ws = xs at HWC HSW hcw hd
                generalize (getM H k).os = os at HOC HSO hco hd2
                obtain ⟨n1, hn1⟩ : ∃ n, n = xs.length := ⟨_, rfl⟩
                obtain ⟨n2, hn2⟩ : ∃ n, n = os.length := ⟨_, rfl⟩
                rw [← hn1] at HSW hcw hd
                rw [← hn2] at HSO hco hd2
                clear hn1 hn2
                go_wp2_with fail
                refine HWC.out.mono ?_
                rintro e w5 ⟨vv, rfl, hr, hb5⟩
                have HB5 := Lib.hid hb5
                have HSW := Lib.hid (HSW.out w5 vv _ hr hb5)
                clear hr hb5 HWC
                go_wp2_with fail
                refine HSW.out.mono ?_
                rintro e w6 ⟨rfl, hb6⟩
                have HB6 := Lib.hid (HB5.out.trans (hb6.mono HB5.out.size))
                have HOC := Lib.hid (HOC.out w6 HB6.out)
                clear hb6 HSW HB5
                go_wp2_with fail
                refine HOC.out.mono ?_
                rintro e w7 ⟨vo, rfl, hr, hb7⟩
                have HB7 := Lib.hid (HB6.out.trans (hb7.mono HB6.out.size))
                have HSO := Lib.hid (HSO.out w7 vo _ hr HB7.out)
                clear hr hb7 HOC HB6
                go_wp2_with fail
                refine HSO.out.mono ?_
                rintro e w8 ⟨rfl, hb8⟩
                have HB8 := Lib.hid (HB7.out.trans (hb8.mono HB7.out.size))
                clear hb8 HSO HB7
                go_wp2
                go_roundw
                case rel => exact ⟨(k : Int) + 1, by omega, by omega, by go_num, Lib.hid (HSTV.out.below HB8.out), Lib.hid (HBV.out.trans (HB8.out.mono HBV.out.size))⟩
                case measure => simp [intOf]; omega
              · have hko : (k : Int) < 0 ∨ (H.length : Int) ≤ (k : Int) := by rw [← HLEN.out]; omega
                rw [ws_out hko] at HWC
                have HOC := Lib.hid (fun (wx : World) (hb : Below V.heap.size V wx) => show Calls Try.prog 21 _ wx (CopyO wx []) from by have := HOC wx hb; rwa [os_out hko] at this)
                have HWC := Lib.hid HWC
                have HSW := Lib.hid (same_w (lies_lit (E := KWd) V (fun _ => False) (some ⟨q1, 0, none⟩) 0 (by omega)) (fun b h2 => h2.elim) (Nat.zero_le _))
                have HSO := Lib.hid (same_o (lies_lit (E := KOb) V (fun _ => False) (some ⟨q1 + 1, 0, none⟩) 0 (by omega)) (fun b h2 => h2.elim) (Nat.zero_le _))
                clear hko
                go_wp2_with fail
                refine HWC.out.mono ?_
                rintro e w5 ⟨vv, rfl, hr, hb5⟩
                have HB5 := Lib.hid hb5
                have HSW := Lib.hid (HSW.out w5 vv _ hr hb5)
                clear hr hb5 HWC
                go_wp2_with fail
                refine HSW.out.mono ?_
                rintro e w6 ⟨rfl, hb6⟩
                have HB6 := Lib.hid (HB5.out.trans (hb6.mono HB5.out.size))
                have HOC := Lib.hid (HOC.out w6 HB6.out)
                clear hb6 HSW HB5
                go_wp2_with fail
                refine HOC.out.mono ?_
                rintro e w7 ⟨vo, rfl, hr, hb7⟩
                have HB7 := Lib.hid (HB6.out.trans (hb7.mono HB6.out.size))
                have HSO := Lib.hid (HSO.out w7 vo _ hr HB7.out)
                clear hr hb7 HOC HB6
                go_wp2_with fail
                refine HSO.out.mono ?_
                rintro e w8 ⟨rfl, hb8⟩
                have HB8 := Lib.hid (HB7.out.trans (hb8.mono HB7.out.size))
                clear hb8 HSO HB7
                go_wp2
                go_roundw
                case rel => exact ⟨(k : Int) + 1, by omega, by omega, by go_num, Lib.hid (HSTV.out.below HB8.out), Lib.hid (HBV.out.trans (HB8.out.mono HBV.out.size))⟩
                case measure => simp [intOf]; omega
            · have hko : t < 0 ∨ (H.length : Int) ≤ t := by omega
              rw [ws_out hko] at HWC
              have HOC := Lib.hid (fun (wx : World) (hb : Below V.heap.size V wx) => show Calls Try.prog 21 _ wx (CopyO wx []) from by have := HOC wx hb; rwa [os_out hko] at this)
              have HWC := Lib.hid HWC
              have HSW := Lib.hid (same_w (lies_lit (E := KWd) V (fun _ => False) (some ⟨q1, 0, none⟩) 0 (by omega)) (fun b h2 => h2.elim) (Nat.zero_le _))
              have HSO := Lib.hid (same_o (lies_lit (E := KOb) V (fun _ => False) (some ⟨q1 + 1, 0, none⟩) 0 (by omega)) (fun b h2 => h2.elim) (Nat.zero_le _))
              clear hko
              go_wp2_with fail
              refine HWC.out.mono ?_
              rintro e w5 ⟨vv, rfl, hr, hb5⟩
              have HB5 := Lib.hid hb5
              have HSW := Lib.hid (HSW.out w5 vv _ hr hb5)
              clear hr hb5 HWC
              go_wp2_with fail
              refine HSW.out.mono ?_
              rintro e w6 ⟨rfl, hb6⟩
              have HB6 := Lib.hid (HB5.out.trans (hb6.mono HB5.out.size))
              have HOC := Lib.hid (HOC.out w6 HB6.out)
              clear hb6 HSW HB5
              go_wp2_with fail
              refine HOC.out.mono ?_
              rintro e w7 ⟨vo, rfl, hr, hb7⟩
              have HB7 := Lib.hid (HB6.out.trans (hb7.mono HB6.out.size))
              have HSO := Lib.hid (HSO.out w7 vo _ hr HB7.out)
              clear hr hb7 HOC HB6
              go_wp2_with fail
              refine HSO.out.mono ?_
              rintro e w8 ⟨rfl, hb8⟩
              have HB8 := Lib.hid (HB7.out.trans (hb8.mono HB7.out.size))
              clear hb8 HSO HB7
              go_wp2
              go_roundw
              case rel => exact ⟨t + 1, by omega, by omega, by go_num, Lib.hid (HSTV.out.below HB8.out), Lib.hid (HBV.out.trans (HB8.out.mono HBV.out.size))⟩
              case measure => simp [intOf]; omega
          · obtain rfl : t = 5 := by omega
            go_wp2
            go_ret
            exact ⟨rfl, HB.out⟩
end Go.Proofs.Ytnplekfpncjnpaa
