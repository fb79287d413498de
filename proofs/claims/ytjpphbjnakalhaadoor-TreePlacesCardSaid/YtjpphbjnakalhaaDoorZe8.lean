/- Ja -/
import Derived.Test.YtjpphbjnakalhaaDoorZa3
import Derived.StillTailTactics
import Derived.IntWalk
set_option linter.unusedVariables false
set_option linter.unusedSimpArgs false
namespace Go.Proofs.YtjpphbjnakalhaaDoor
open Go.RowKit
def SmsPostO (w : World) (ss : List Sm) (e : Ending) (w' : World) : Prop :=
  ∃ v, e = .returned v ∧ OwnSm w' w.heap.size v ss ∧ Below w.heap.size w w'
def CopiesBO (w0 : World) (B : Nat) (ss : List Sm) (v : Value) : Prop :=
  smallSs 1000000 ss → ss.length ≤ 1000000 → ∀ (deep : Int) (w : World), Below B w0 w → B ≤ w.heap.size → -100000 ≤ deep → deep ≤ 100000 →
    Calls Tryd.prog 11 #[v, .int .i64 deep] w (SmsPostO w (copyB ss deep))
set_option maxHeartbeats 4000000 in
set_option maxRecDepth 100000 in
theorem copybO_any {w0 : World} {B : Nat} {ss : List Sm} {v : Value} (h : IsSms w0 (· < B) ss v) : CopiesBO w0 B ss v := by
  induction h with
  | mk ss A c fe fb fl hc hM hA he hbd hel ihb ihl =>
    intro hsm hns6 deep w hb hB hd0 hd
    obtain ⟨ns, hns⟩ : ∃ ns, ns = ss.length := ⟨_, rfl⟩
    rw [← hns] at hc hns6 ⊢
    have HNS := Lib.hid hns
    have HB0 := Lib.hid hb
    have HE := Lib.hid he
    have HBD := Lib.hid hbd
    have HEL := Lib.hid hel
    have HIB := Lib.hid ihb
    have HIL := Lib.hid ihl
    have HHA := Lib.hid hA
    have HSM := Lib.hid hsm
    clear hns hb he hbd hel ihb ihl hA hsm
    go_enter Tryd.func11, Tryd.ntmps11
    go_wp2
    obtain ⟨X, hX⟩ : ∃ X : World, X = w.alloc (.cells #[] 34) := ⟨_, rfl⟩
    obtain ⟨g, hg⟩ : ∃ g, g = w.heap.size := ⟨_, rfl⟩
    have hxo : OwnSm X g (.slice (some ⟨g, 0, none⟩) 0 0) (copyB (ss.take 0) deep) := by
      rw [hX, hg, List.take_zero, copyB]; exact OwnSm.nil w
    have hxs : X.heap.size = g + 1 := by rw [hX, hg]; simp
    have hxb : Below g w X := by rw [hX, hg]; exact (Below.refl _ w).alloc (Nat.le_refl _) _
    rw [← hX, ← hg]
    have HXO := Lib.hid hxo
    have HXS := Lib.hid hxs
    have HXB := Lib.hid hxb
    have HG := Lib.hid hg
    clear hX hxo hxs hxb hg
    go_loopw [5, 6] (fun v i wr => ∃ j : Nat, j ≤ ns ∧ i = .int .i64 j ∧ Hid (OwnSm wr g v (copyB (ss.take j) deep)) ∧ Hid (Below g X wr) ∧ g < wr.heap.size) (fun _ i _ => ns - (intOf i).toNat)
    case atStart => exact ⟨0, Nat.zero_le _, rfl, HXO, Lib.hid (Below.refl _ _), by have := HXS.out; omega⟩
    case round =>
      obtain ⟨wo, rfl⟩ : ∃ wo : World, wo = wr := ⟨_, rfl⟩
      obtain ⟨j, hj, rfl, HO, HBL, hws⟩ := hrel
      by_cases hgo : j < ns ∧ 0 < deep
      · obtain ⟨hlt, hdp⟩ := hgo
        have hje : j < ss.length := by rw [← HNS.out]; exact hlt
        obtain ⟨b, off, rfl, hbB, hnm, hty, p0, p1, p2, p3, p4, p5, p6⟩ := HHA.out j hje
        have hbw : Below B w0 wo := HB0.out.trans ((HXB.out.trans HBL.out).mono (by rw [HG.out]; exact hB))
        have hsx : B ≤ wo.heap.size := by have := HG.out; omega
        obtain ⟨-, -, s3, s4, s5, s6, s7, s8⟩ := smallS_parts (smallSs_get HSM.out j hje)
        have hce := HE.out j hje
        have hcb := HIB.out j hje s6 s5
        have hcl := HIL.out j hje s8 s7
        obtain ⟨A1, d1, hf1, hk1, hK1⟩ := hce.slice
        obtain ⟨A2, d2, hf2, hk2, hK2⟩ := (HBD.out j hje).slice
        obtain ⟨A3, d3, hf3, hk3, hK3⟩ := (HEL.out j hje).slice
        have hct := copyB_take ss deep hdp j hje
        obtain ⟨e1, e2, e3, e4, e5, e6, e7⟩ := copyS_parts ss[j] deep
        rw [hf1] at p4 hce
        rw [hf2] at p5 hcb
        rw [hf3] at p6 hcl
        obtain ⟨Y, hY⟩ : ∃ Y, Y = copyS ss[j] deep := ⟨_, rfl⟩
        rw [← hY] at e1 e2 e3 e4 e5 e6 e7 hct
        obtain ⟨m1, hm1⟩ : ∃ m, m = ss[j].exprs.length := ⟨_, rfl⟩
        obtain ⟨m2, hm2⟩ : ∃ m, m = ss[j].body.length := ⟨_, rfl⟩
        obtain ⟨m3, hm3⟩ : ∃ m, m = ss[j].els.length := ⟨_, rfl⟩
        rw [← hm1] at p4 hce hk1
        rw [← hm2] at p5 hcb hk2
        rw [← hm3] at p6 hcl hk3
        rw [← e1] at p0
        rw [← e2] at p1
        rw [← e3] at p2 hnm
        rw [← e4] at p3 hty
        have r0 := (hbw.cell (p := ⟨b, off + j * 7, none⟩) hbB).trans p0
        have r1 := (hbw.cell (p := ⟨b, off + j * 7 + 1, none⟩) hbB).trans p1
        have r2 := (hbw.cell (p := ⟨b, off + j * 7 + 2, none⟩) hbB).trans p2
        have r3 := (hbw.cell (p := ⟨b, off + j * 7 + 3, none⟩) hbB).trans p3
        have r4 := (hbw.cell (p := ⟨b, off + j * 7 + 4, none⟩) hbB).trans p4
        have r5 := (hbw.cell (p := ⟨b, off + j * 7 + 5, none⟩) hbB).trans p5
        have r6 := (hbw.cell (p := ⟨b, off + j * 7 + 6, none⟩) hbB).trans p6
        obtain ⟨yk, hyk⟩ : ∃ x, x = Y.kind := ⟨_, rfl⟩
        obtain ⟨yp, hyp⟩ : ∃ x, x = Y.pl := ⟨_, rfl⟩
        obtain ⟨yn, hyn⟩ : ∃ x, x = strOf Y.name := ⟨_, rfl⟩
        obtain ⟨yt, hyt⟩ : ∃ x, x = strOf Y.type := ⟨_, rfl⟩
        rw [← hyk] at r0
        rw [← hyp] at r1
        rw [← hyn] at r2
        rw [← hyt] at r3
        have hcells : ∀ u, smCells Y u = [.int .i64 yk, .int .i64 yp, .string yn, .string yt, u.e, u.b, u.l] := fun u => by rw [hyk, hyp, hyn, hyt]; rfl
        have hlen : (copyB (ss.take j) deep).length ≤ 1000000 := by
          have h1 := copyB_len (ss.take j) deep
          rw [List.length_take] at h1
          omega
        obtain ⟨X1, hX1⟩ : ∃ X1 : World, X1 = wo.alloc (.cells #[.int .i64 yk, .int .i64 yp, .string yn, .string yt, .slice A1 m1 d1, .slice A2 m2 d2, .slice A3 m3 d3] 34) := ⟨_, rfl⟩
        have hx1 : SmBlk X1 wo.heap.size yk yp yn yt (.slice A1 m1 d1) (.slice A2 m2 d2) (.slice A3 m3 d3) := by rw [hX1]; exact SmBlk.new wo _ _ _ _ _ _ _
        have hx1s : X1.heap.size = wo.heap.size + 1 := by rw [hX1]; simp
        have hx1b : Below wo.heap.size wo X1 := by rw [hX1]; exact (Below.refl _ wo).alloc (Nat.le_refl _) _
        have hcc1 := copys_any hce s4 s3 deep X1 (hbw.trans (hx1b.mono hsx)) (by omega) (by omega) (by omega)
        have HCC := Lib.hid hcc1
        have HCT := Lib.hid hct
        have HCL := Lib.hid hcells
        have HLEN := Lib.hid hlen
        have HNM := Lib.hid hnm
        have HTY := Lib.hid hty
        have HX1 := Lib.hid hX1
        have HX1B := Lib.hid hx1b
        have HX1K := Lib.hid hx1
        have HX1S := Lib.hid hx1s
        have HCB := Lib.hid hcb
        have HCLS := Lib.hid hcl
        have HE5 := Lib.hid e5
        have HE6 := Lib.hid e6
        have HE7 := Lib.hid e7
        clear hcc1 hct hcells hlen hnm hty hX1 hx1b hx1 hx1s hcb hcl hce e1 e2 e3 e4 e5 e6 e7 hY hyk hyp hyn hyt hm1 hm2 hm3 hf1 hf2 hf3 s3 s4 s5 s6 s7 s8 p0 p1 p2 p3 p4 p5 p6 HHA HE HBD HEL HIB HIL
        go_wp2_with fail
        rw [← HX1.out]
        refine HCC.out.mono ?_
        rintro e w1 ⟨v1, rfl, hi1, hb1⟩
        obtain ⟨B1, n1, c1, -, hN1, rfl⟩ : ∃ A n c, True ∧ IsExs w1 (fun b => X1.heap.size ≤ b ∧ b < w1.heap.size) (ss[j].exprs.map (copyE · deep)) (.slice A n c) ∧ v1 = .slice A n c := by
          cases hi1 with
          | mk es A c f q1 q2 q3 q4 => exact ⟨_, _, _, trivial, .mk _ A c f q1 q2 q3 q4, rfl⟩
        have hx1s := HX1S.out
        have hk1 := HX1K.out.below hb1 (by omega)
        have y0 := hk1.c0
        have y4 := hk1.c4
        have y5 := hk1.c5
        have z4 := hk1.fr 4
        have HB1 := Lib.hid hb1
        have HN1 := Lib.hid hN1
        have HK1 := Lib.hid hk1
        clear hi1 hb1 hN1 hk1 hx1s
        go_wp2_with fail
        obtain ⟨X2, hX2⟩ : ∃ X2 : World, X2 = w1.setCell ⟨wo.heap.size, 4, none⟩ (.slice B1 n1 c1) := ⟨_, rfl⟩
        rw [← hX2]
        have hx2s : X2.heap.size = w1.heap.size := by rw [hX2]; simp
        have hx12 := HX1S.out
        have hw1s := HB1.out.size
        have hx2 : SmBlk X2 wo.heap.size yk yp yn yt (.slice B1 n1 c1) (.slice A2 m2 d2) (.slice A3 m3 d3) := by rw [hX2]; exact HK1.out.set4 _
        have hx2b : Below wo.heap.size wo X2 := by rw [hX2]; exact (HX1B.out.trans (HB1.out.mono (by omega))).setCell (Nat.le_refl _) _
        have hn2 : IsExs X2 (fun b => X1.heap.size ≤ b ∧ b < X2.heap.size) (ss[j].exprs.map (copyE · deep)) (.slice B1 n1 c1) := by
          refine HN1.out.keep (fun b hb => ?_) (fun b hb => by rw [hx2s]; exact hb)
          rw [hX2]
          exact Below.heap_setCell _ _ _ b (show b ≠ wo.heap.size by omega)
        refine (HCB.out (deep - 1) X2 (hbw.trans (hx2b.mono hsx)) (by omega) (by omega) (by omega)).mono ?_
        rintro e w2 ⟨v2, rfl, hi2, hb2⟩
        replace hi2 := OwnSm.sms hi2
        obtain ⟨B2, n2, c2, hN2, rfl⟩ : ∃ A n c, IsSms w2 (fun b => X2.heap.size ≤ b ∧ b < w2.heap.size) (copyB ss[j].body (deep - 1)) (.slice A n c) ∧ v2 = .slice A n c := by
          cases hi2 with
          | mk es A c f1 f2 f3 q1 q2 q3 q4 q5 q6 => exact ⟨_, _, _, .mk _ A c f1 f2 f3 q1 q2 q3 q4 q5 q6, rfl⟩
        have hw2s := hb2.size
        have hk2 := hx2.below hb2 (by omega)
        have hn3 : IsExs w2 (fun b => X1.heap.size ≤ b ∧ b < w2.heap.size) (ss[j].exprs.map (copyE · deep)) (.slice B1 n1 c1) := hn2.keep (fun b hb => hb2.block b hb.2) (fun b hb => ⟨hb.1, by omega⟩)
        have hw2b : Below wo.heap.size wo w2 := hx2b.trans (hb2.mono (by omega))
        clear y0 y4 y5 z4
        have y0 := hk2.c0
        have y5 := hk2.c5
        have y6 := hk2.c6
        have z5 := hk2.fr 5
        have HN2 := Lib.hid hN2
        have HN3 := Lib.hid hn3
        have HK2 := Lib.hid hk2
        have HW2B := Lib.hid hw2b
        have HW2S : Hid (X1.heap.size ≤ w2.heap.size ∧ X2.heap.size ≤ w2.heap.size ∧ X1.heap.size ≤ X2.heap.size) := Lib.hid ⟨by omega, by omega, by omega⟩
        clear hi2 hN2 hn3 hn2 hb2 hk2 hw2b hx2b hx2 hx2s hx12 hw1s hw2s hX2 HK1 HN1 HB1
        go_wp2_with fail
        obtain ⟨X3, hX3⟩ : ∃ X3 : World, X3 = w2.setCell ⟨wo.heap.size, 5, none⟩ (.slice B2 n2 c2) := ⟨_, rfl⟩
        rw [← hX3]
        have hx3s : X3.heap.size = w2.heap.size := by rw [hX3]; simp
        have hx12 := HX1S.out
        have hw2s := HW2S.out
        have hx3 : SmBlk X3 wo.heap.size yk yp yn yt (.slice B1 n1 c1) (.slice B2 n2 c2) (.slice A3 m3 d3) := by rw [hX3]; exact HK2.out.set5 _
        have hx3b : Below wo.heap.size wo X3 := by rw [hX3]; exact HW2B.out.setCell (Nat.le_refl _) _
        have hn4 : IsExs X3 (fun b => X1.heap.size ≤ b ∧ b < X3.heap.size) (ss[j].exprs.map (copyE · deep)) (.slice B1 n1 c1) := by
          refine HN3.out.keep (fun b hb => ?_) (fun b hb => by rw [hx3s]; exact hb)
          rw [hX3]
          exact Below.heap_setCell _ _ _ b (show b ≠ wo.heap.size by omega)
        have hm4 : IsSms X3 (fun b => X1.heap.size ≤ b ∧ b < X3.heap.size) (copyB ss[j].body (deep - 1)) (.slice B2 n2 c2) := by
          refine HN2.out.keep (fun b hb => ?_) (fun b hb => by rw [hx3s]; exact ⟨by omega, hb.2⟩)
          rw [hX3]
          exact Below.heap_setCell _ _ _ b (show b ≠ wo.heap.size by omega)
        refine (HCLS.out (deep - 1) X3 (hbw.trans (hx3b.mono hsx)) (by omega) (by omega) (by omega)).mono ?_
        rintro e w3 ⟨v3, rfl, hi3, hb3⟩
        replace hi3 := OwnSm.sms hi3
        obtain ⟨B3, n3, c3, hN5, rfl⟩ : ∃ A n c, IsSms w3 (fun b => X3.heap.size ≤ b ∧ b < w3.heap.size) (copyB ss[j].els (deep - 1)) (.slice A n c) ∧ v3 = .slice A n c := by
          cases hi3 with
          | mk es A c f1 f2 f3 q1 q2 q3 q4 q5 q6 => exact ⟨_, _, _, .mk _ A c f1 f2 f3 q1 q2 q3 q4 q5 q6, rfl⟩
        have hw3s := hb3.size
        have hk3' := hx3.below hb3 (by omega)
        have hn5 : IsExs w3 (fun b => X1.heap.size ≤ b ∧ b < w3.heap.size) (ss[j].exprs.map (copyE · deep)) (.slice B1 n1 c1) := hn4.keep (fun b hb => hb3.block b hb.2) (fun b hb => ⟨hb.1, by omega⟩)
        have hm5 : IsSms w3 (fun b => X1.heap.size ≤ b ∧ b < w3.heap.size) (copyB ss[j].body (deep - 1)) (.slice B2 n2 c2) := hm4.keep (fun b hb => hb3.block b hb.2) (fun b hb => ⟨hb.1, by omega⟩)
        have hl5 : IsSms w3 (fun b => X1.heap.size ≤ b ∧ b < w3.heap.size) (copyB ss[j].els (deep - 1)) (.slice B3 n3 c3) := hN5.keep (fun b hb => rfl) (fun b hb => ⟨by omega, hb.2⟩)
        have hw3b : Below wo.heap.size wo w3 := hx3b.trans (hb3.mono (by omega))
        clear y0 y5 y6 z5
        have y0 := hk3'.c0
        have y6 := hk3'.c6
        have z6 := hk3'.fr 6
        obtain ⟨X4, hX4⟩ : ∃ X4 : World, X4 = w3.setCell ⟨wo.heap.size, 6, none⟩ (.slice B3 n3 c3) := ⟨_, rfl⟩
        have hx4s : X4.heap.size = w3.heap.size := by rw [hX4]; simp
        have hx4 : SmBlk X4 wo.heap.size yk yp yn yt (.slice B1 n1 c1) (.slice B2 n2 c2) (.slice B3 n3 c3) := by rw [hX4]; exact hk3'.set6 _
        have hx4b : Below wo.heap.size wo X4 := by rw [hX4]; exact hw3b.setCell (Nat.le_refl _) _
        have hkeep : ∀ b, X1.heap.size ≤ b ∧ b < w3.heap.size → X4.heap[b]? = w3.heap[b]? := fun b hb => by
          rw [hX4]
          exact Below.heap_setCell _ _ _ b (show b ≠ wo.heap.size by omega)
        have hS4 : ∀ b, X1.heap.size ≤ b ∧ b < w3.heap.size → X1.heap.size ≤ b ∧ b < X4.heap.size := fun b hb => by rw [hx4s]; exact hb
        have hn6 := hn5.keep hkeep hS4
        have hm6 := hm5.keep hkeep hS4
        have hl6 := hl5.keep hkeep hS4
        clear y0 y6 z6
        have y0 := hk3'.c0
        have y1 := hk3'.c1
        have y2 := hk3'.c2
        have y3 := hk3'.c3
        have y4 := hk3'.c4
        have y5 := hk3'.c5
        have y6 := hk3'.c6
        have z6 := hk3'.fr 6
        obtain ⟨X5, hX5⟩ : ∃ X5 : World, X5 = X4.alloc (.cells #[.int .i64 yk, .int .i64 yp, .string yn, .string yt, .slice B1 n1 c1, .slice B2 n2 c2, .slice B3 n3 c3] 34) := ⟨_, rfl⟩
        have hx5s : X5.heap.size = w3.heap.size + 1 := by rw [hX5]; simp; omega
        have hx5b : Below X4.heap.size X4 X5 := by rw [hX5]; exact (Below.refl _ X4).alloc (Nat.le_refl _) _
        have ho1 : OwnSm X5 g u5 (copyB (ss.take j) deep) := (HO.out.below hx4b).below hx5b
        have hnew : ∀ q y, (smCells Y ⟨.slice B1 n1 c1, .slice B2 n2 c2, .slice B3 n3 c3⟩)[q]? = some y → X5.cell? ((⟨w3.heap.size, 0, none⟩ : Addr).add q) = some y := fun q y hq => by
          rw [HCL.out] at hq
          rw [hX5, ← hx4s, add_pl, Nat.zero_add, cell_of_row _ _ q _ _ (0, 0) (heap_alloc_new X4 _)]
          simpa using hq
        have hno : ∀ b, X1.heap.size ≤ b → u5.ownBlock ≠ some b := fun b hb e => by
          have := (HO.out.lt e).2
          have := HX1S.out
          omega
        have hun : SmIn X5 (fun b => g ≤ b ∧ b < X5.heap.size ∧ u5.ownBlock ≠ some b) Y ⟨.slice B1 n1 c1, .slice B2 n2 c2, .slice B3 n3 c3⟩ := by
          have hk5 : ∀ b, X1.heap.size ≤ b ∧ b < X4.heap.size → X5.heap[b]? = X4.heap[b]? := fun b hb => hx5b.block b hb.2
          have hS5 : ∀ b, X1.heap.size ≤ b ∧ b < X4.heap.size → g ≤ b ∧ b < X5.heap.size ∧ u5.ownBlock ≠ some b := fun b hb => ⟨by omega, by omega, hno b hb.1⟩
          refine ⟨HNM.out, HTY.out, ?_, ?_, ?_⟩
          · rw [HE5.out]; exact hn6.keep hk5 hS5
          · rw [HE6.out]; exact hm6.keep hk5 hS5
          · rw [HE7.out]; exact hl6.keep hk5 hS5
        have hbel5 : Below g X X5 := (HBL.out.trans (hx4b.mono (by omega))).trans (hx5b.mono (by omega))
        have hg5 : g ≤ X5.heap.size := by omega
        rw [hX5, hX4] at ho1 hnew hun hbel5 hg5
        have HO1 := Lib.hid ho1
        have HNEW := Lib.hid hnew
        have HUN := Lib.hid hun
        have HBEL := Lib.hid hbel5
        have HG5 := Lib.hid hg5
        clear ho1 hnew hun hbel5 hg5 hno hX5 hX4 hx5s hx5b hx4s hx4b hn6 hm6 hl6 hn5 hm5 hl5 hk3' hx4 hw3b hkeep hS4 hw3s hi3 hb3 hN5 hx3 hx3b hn4 hm4 hX3 hx3s hx12 hw2s HCB HCLS HCC HK2 HN2 HN3 HW2B X5 X4
        go_wp2_with (first
          | (at_builtin; refine wpList_append_sm rfl _ _ rfl g u5 (copyB (ss.take j) deep) rfl HO1.out ⟨w3.heap.size, 0, none⟩ 1 Y ⟨.slice B1 n1 c1, .slice B2 n2 c2, .slice B3 n3 c3⟩ rfl HNEW.out HUN.out HLEN.out HG5.out ?_; intro v' w4 hown4 hgr))
        go_roundw
        case rel =>
          have hb4 := HBEL.out.grown hgr HG5.out (fun q hq => (HO.out.lt hq).1)
          exact ⟨j + 1, by omega, by go_num, Lib.hid (by rw [HCT.out]; exact hown4), Lib.hid hb4, by have h1 := hb4.size; have h2 := HXS.out; omega⟩
        case measure => simp [intOf]; omega
      · have hall : copyB (ss.take j) deep = copyB ss deep := by
          by_cases h0 : 0 < deep
          · have hje : ¬ j < ns := fun h => hgo ⟨h, h0⟩
            rw [List.take_of_length_le (by rw [← HNS.out]; omega)]
          · rw [copyB_none _ _ h0, copyB_none _ _ h0]
        rw [hall] at HO
        have hfin : OwnSm wo w.heap.size u5 (copyB ss deep) := by rw [← HG.out]; exact HO.out
        have hend : Below w.heap.size w wo := by rw [← HG.out]; exact HXB.out.trans HBL.out
        have hcase : j = ns ∨ (j < ns ∧ deep ≤ 0) := by
          rcases Nat.lt_or_ge j ns with h | h
          · exact .inr ⟨h, by
              rcases Int.lt_or_le 0 deep with h2 | h2
              · exact absurd ⟨h, h2⟩ hgo
              · exact h2⟩
          · exact .inl (by omega)
        clear hgo hall HHA HE HBD HEL HIB HIL
        rcases hcase with h | ⟨h, h'⟩
        all_goals
          go_wp2
          go_ret
          exact ⟨_, rfl, hfin, hend⟩
end Go.Proofs.YtjpphbjnakalhaaDoor
