/- Jc -/
import Derived.Test.YtjpphbjnakalhaaDoorZe7
import Derived.Test.YtjpphbjnakalhaaDoorZe9
import Derived.StillTailTactics
import Derived.IntWalk
set_option linter.unusedVariables false
set_option linter.unusedSimpArgs false
namespace Go.Proofs.YtjpphbjnakalhaaDoor
open Go.RowKit
def DcsPostA (w : World) (ds : List Dc) (e : Ending) (w' : World) : Prop :=
  ∃ v, e = .returned (.agg #[v]) ∧ Apart w' (w.heap.size + 3) w'.heap.size v ds ∧ Below w.heap.size w w'
set_option maxHeartbeats 4000000 in
set_option maxRecDepth 100000 in
theorem copypA_any {w0 : World} {B : Nat} {ds : List Dc} {v : Value} (h : DcsIn w0 (· < B) ds v) (hsm : ∀ (k : Nat) (hk : k < ds.length), smallD 1000000 ds[k]) (hn6 : ds.length ≤ 1000000) (deep : Int) (w : World) (hb : Below B w0 w) (hB : B ≤ w.heap.size) (hd0 : -100000 ≤ deep) (hd : deep ≤ 100000) :
    Calls Tryd.prog 6 #[.agg #[v], .int .i64 deep] w (DcsPostA w (ds.map (copyD · deep))) := by
  obtain ⟨A, c, fp, fb, rfl, hc, hM, hA, hp, hbd⟩ := h
  obtain ⟨ns, hns⟩ : ∃ ns, ns = ds.length := ⟨_, rfl⟩
  rw [← hns] at hc hn6 ⊢
  have HNS := Lib.hid hns
  have HP := Lib.hid hp
  have HBD := Lib.hid hbd
  have HHA := Lib.hid hA
  have HB0 := Lib.hid hb
  have HSM := Lib.hid hsm
  clear hns hp hbd hA hb hsm
  go_enter Tryd.func6, Tryd.ntmps6
  go_wp2
  obtain ⟨X, hX⟩ : ∃ X : World, X = ((w.alloc (.cells #[.slice A ns c] 24)).alloc (.cells #[.slice none 0 0] 24)).alloc (.cells #[.slice none 0 0] 24) := ⟨_, rfl⟩
  obtain ⟨g, hg⟩ : ∃ g, g = w.heap.size := ⟨_, rfl⟩
  have hx1 : OneBlk X g (.slice A ns c) := by
    rw [hX, hg]
    exact ((OneBlk.new w _).below ((Below.refl _ _).alloc (Nat.le_refl _) _) (by simp)).below ((Below.refl _ _).alloc (Nat.le_refl _) _) (by simp; omega)
  have hx2 : OneBlk X (g + 1) (.slice none 0 0) := by
    rw [hX, hg]
    have h := (OneBlk.new (w.alloc (.cells #[.slice A ns c] 24)) (.slice none 0 0)).below ((Below.refl _ _).alloc (Nat.le_refl _) (.cells #[.slice none 0 0] 24)) (by simp)
    rw [show (w.alloc (.cells #[.slice A ns c] 24)).heap.size = w.heap.size + 1 from by simp] at h
    exact h
  have hx3 : OneBlk X (g + 2) (.slice none 0 0) := by
    rw [hX, hg]
    have h := OneBlk.new ((w.alloc (.cells #[.slice A ns c] 24)).alloc (.cells #[.slice none 0 0] 24)) (.slice none 0 0)
    rw [show ((w.alloc (.cells #[.slice A ns c] 24)).alloc (.cells #[.slice none 0 0] 24)).heap.size = w.heap.size + 2 from by simp] at h
    exact h
  have hxs : X.heap.size = g + 3 := by rw [hX, hg]; simp
  have hxb : Below g w X := by rw [hX, hg]; exact (((Below.refl _ w).alloc (Nat.le_refl _) _).alloc (by simp) _).alloc (by simp; omega) _
  rw [← hX, ← hg]
  have HX1 := Lib.hid hx1
  have HX2 := Lib.hid hx2
  have HX3 := Lib.hid hx3
  have HXS := Lib.hid hxs
  have HXB := Lib.hid hxb
  have HG := Lib.hid hg
  clear hX hx1 hx2 hx3 hxs hxb hg
  go_loopw [6] (fun i wr => ∃ (j : Nat) (u : Value), j ≤ ns ∧ i = .int .i64 j ∧ Hid (OneBlk wr (g + 2) u) ∧ Hid (Apart wr (g + 3) wr.heap.size u ((ds.take j).map (copyD · deep))) ∧ Hid (Below (g + 2) X wr) ∧ g + 3 ≤ wr.heap.size) (fun i _ => ns - (intOf i).toNat)
  case atStart => exact ⟨0, _, Nat.zero_le _, rfl, HX3, Lib.hid (Apart.nil_ _ _ _), Lib.hid (Below.refl _ _), by have := HXS.out; omega⟩
  case round =>
    obtain ⟨wo, rfl⟩ : ∃ wo : World, wo = wr := ⟨_, rfl⟩
    obtain ⟨j, u, hj, rfl, HU, HO, HBL, hws⟩ := hrel
    have hb1 := HX1.out.below HBL.out (by omega)
    have k0 := hb1.c0
    by_cases hlt : j < ns
    · have hje : j < ds.length := by rw [← HNS.out]; exact hlt
      obtain ⟨b, off, rfl, hbB, hnm, hty, p0, p1, p2, p3, p4, p5, p6⟩ := HHA.out j hje
      have hprs := HP.out j hje
      have hsms := HBD.out j hje
      obtain ⟨t1, t2, t3⟩ := HSM.out j hje
      obtain ⟨A1, c1, hf1, hc1, hM1, -⟩ := HP.out j hje
      obtain ⟨A2, c2, hf2, hc2, hM2⟩ := hsms.slice
      have hcb := copybO_any hsms t3 t2
      have hct : (ds.take (j + 1)).map (copyD · deep) = (ds.take j).map (copyD · deep) ++ [copyD ds[j] deep] := by
        rw [List.take_add_one, List.getElem?_eq_getElem hje, Option.toList_some, List.map_append, List.map_singleton]
      rw [hf1] at p5 hprs
      rw [hf2] at p6 hcb
      obtain ⟨Y, hY⟩ : ∃ Y, Y = ds[j] := ⟨_, rfl⟩
      rw [← hY] at p0 p1 p2 p3 p4 p5 p6 hnm hty hc1 hc2 hcb hct t1 hprs
      have hbw : Below B w0 wo := HB0.out.trans ((HXB.out.trans (HBL.out.mono (by omega))).mono (by rw [HG.out]; exact hB))
      have hsx : B ≤ wo.heap.size := by have := HG.out; omega
      have r0 := (hbw.cell (p := ⟨b, off + j * 7, none⟩) hbB).trans p0
      have r1 := (hbw.cell (p := ⟨b, off + j * 7 + 1, none⟩) hbB).trans p1
      have r2 := (hbw.cell (p := ⟨b, off + j * 7 + 2, none⟩) hbB).trans p2
      have r3 := (hbw.cell (p := ⟨b, off + j * 7 + 3, none⟩) hbB).trans p3
      have r4 := (hbw.cell (p := ⟨b, off + j * 7 + 4, none⟩) hbB).trans p4
      have r5 := (hbw.cell (p := ⟨b, off + j * 7 + 5, none⟩) hbB).trans p5
      have r6 := (hbw.cell (p := ⟨b, off + j * 7 + 6, none⟩) hbB).trans p6
      obtain ⟨yk, hyk⟩ : ∃ x, x = Y.kind := ⟨_, rfl⟩
      obtain ⟨yp, hyp⟩ : ∃ x, x = Y.pl := ⟨_, rfl⟩
      obtain ⟨yu, hyu⟩ : ∃ x, x = Y.num := ⟨_, rfl⟩
      obtain ⟨n1, hn1'⟩ : ∃ n1, n1 = Y.pairs.length := ⟨_, rfl⟩
      obtain ⟨m2, hm2⟩ : ∃ m2, m2 = Y.body.length := ⟨_, rfl⟩
      obtain ⟨sn, hsn⟩ : ∃ sn, sn = strOf Y.name := ⟨_, rfl⟩
      obtain ⟨st, hst⟩ : ∃ st, st = strOf Y.type := ⟨_, rfl⟩
      have hcells : ∀ p q, dcCells (copyD Y deep) ⟨p, q⟩ = [.int .i64 yk, .int .i64 yp, .int .i64 yu, .string sn, .string st, p, q] := fun p q => by rw [hyk, hyp, hyu, hsn, hst]; rfl
      rw [← hyk] at r0
      rw [← hyp] at r1
      rw [← hyu] at r2
      rw [← hsn] at r3
      rw [← hst] at r4
      rw [← hn1'] at r5 hc1 hprs t1
      rw [← hm2] at r6 hc2 hcb
      obtain ⟨X1, hX1⟩ : ∃ X1 : World, X1 = wo.alloc (.cells #[.int .i64 yk, .int .i64 yp, .int .i64 yu, .string sn, .string st, .slice A1 n1 c1, .slice A2 m2 c2] 31) := ⟨_, rfl⟩
      obtain ⟨X2, hX2⟩ : ∃ X2 : World, X2 = X1.alloc (.cells #[] 44) := ⟨_, rfl⟩
      have hx1s : X1.heap.size = wo.heap.size + 1 := by rw [hX1]; simp
      have hx2s : X2.heap.size = wo.heap.size + 2 := by rw [hX2]; simp; omega
      have hx1 : DcBlk X1 wo.heap.size yk yp yu sn st (.slice A1 n1 c1) (.slice A2 m2 c2) := by rw [hX1]; exact DcBlk.new wo _ _ _ _ _ _ _
      have hx12 : Below X1.heap.size X1 X2 := by rw [hX2]; exact (Below.refl _ X1).alloc (Nat.le_refl _) _
      have hx2 := hx1.below hx12 (by omega)
      have hx1b : Below wo.heap.size wo X1 := by rw [hX1]; exact (Below.refl _ wo).alloc (Nat.le_refl _) _
      have hx2b : Below wo.heap.size wo X2 := hx1b.trans (hx12.mono (by omega))
      have hp2 : PrsIn X2 (· < B) Y.pairs (.slice A1 n1 c1) := hprs.keep (fun b hb => (hbw.trans (hx2b.mono hsx)).block b hb) (fun _ hb => hb)
      have hg2 : X2.heap[wo.heap.size + 1]? = some (.cells #[] 44 (0, 0)) := by rw [hX2, ← hx1s]; exact heap_alloc_new X1 _
      have y0 := hx2.c0
      have y5 := hx2.c5
      rw [hX2, hX1] at y0 y5
      have y0' := hx1.c0
      have y5' := hx1.c5
      rw [hX1] at y0' y5'
      have hsz2 : wo.heap.size + 1 < X2.heap.size := by omega
      have hx2c := hx2
      rw [hX2, hX1] at hp2 hg2 hsz2 hx2
      have HSZ2 := Lib.hid hsz2
      have HX1E := Lib.hid hX1
      have HX2E := Lib.hid hX2
      have HX2S := Lib.hid hx2s
      have HX2B := Lib.hid hx2b
      have HXK := Lib.hid hx2
      have HXKC := Lib.hid hx2c
      have HP2 := Lib.hid hp2
      have HG2 := Lib.hid hg2
      have HCB := Lib.hid hcb
      have HCT := Lib.hid hct
      have HCL := Lib.hid hcells
      have HNM := Lib.hid hnm
      have HTY := Lib.hid hty
      have HT1 := Lib.hid t1
      have HN1 := Lib.hid hn1'
      clear hX1 hX2 hx1s hx2s hx2b hx2 hx2c hsz2 hx1 hx1b hx12 hp2 hg2 hcb hct hcells hprs hsms t1 t2 t3 hnm hty hyk hyp hyu hn1' hm2 hsn hst hY hf1 hf2 p0 p1 p2 p3 p4 p5 p6 HHA HP HBD HSM
      go_wp2_with (first
        | (at_builtin; go_loud (refine wpList_append_prs rfl _ _ rfl (wo.heap.size + 1) rfl HG2.out HSZ2.out (· < B) Y.pairs (.slice A1 n1 c1) rfl HP2.out (by rw [← HN1.out]; exact HT1.out) ?_; go_loud (intro v3 w3 hp3 hgr3; obtain ⟨A3, n3, c3, rfl⟩ : ∃ A n c, v3 = .slice A n c := (by obtain ⟨A, c, h, _⟩ := hp3; exact ⟨A, _, c, h⟩); have e3 : DcBlk w3 wo.heap.size yk yp yu sn st (.slice A1 n1 c1) (.slice A2 m2 c2) := (hgr3.block wo.heap.size (by have := HSZ2.out; omega) (by simp)).trans HXK.out; have f0 := e3.c0; have f5 := e3.c5; have f6 := e3.c6; have f55 := e3.fr 5))))
      rw [← HX1E.out, ← HX2E.out] at hgr3 hp3
      obtain ⟨X4, hX4⟩ : ∃ X4 : World, X4 = w3.setCell ⟨wo.heap.size, 5, none⟩ (.slice A3 n3 c3) := ⟨_, rfl⟩
      rw [← hX4]
      have hs2 := HX2S.out
      have hgs := hgr3.size
      have hw3b : Below wo.heap.size wo w3 := HX2B.out.grown hgr3 (by omega) (fun q hq => by
        have : wo.heap.size + 1 = q := by simpa using hq
        omega)
      have x4s : X4.heap.size = w3.heap.size := by rw [hX4]; simp
      have e4 : DcBlk X4 wo.heap.size yk yp yu sn st (.slice A3 n3 c3) (.slice A2 m2 c2) := by rw [hX4]; exact e3.set5 _
      have hx4b : Below wo.heap.size wo X4 := by rw [hX4]; exact hw3b.setCell (Nat.le_refl _) _
      have hp4 : PrsIn X4 (fun b => wo.heap.size + 1 ≤ b ∧ b < X4.heap.size) Y.pairs (.slice A3 n3 c3) := by
        refine hp3.keep (fun b hb => ?_) (fun b hb => ⟨hb.1, by rw [x4s]; exact hb.2.1⟩)
        rw [hX4]
        exact Below.heap_setCell _ _ _ b (show b ≠ wo.heap.size by omega)
      refine (HCB.out deep X4 (hbw.trans (hx4b.mono hsx)) (by omega) hd0 hd).mono ?_
      rintro e w5 ⟨v5, rfl, hi5, hb5⟩
      obtain ⟨A5, n5, c5, hN5, rfl⟩ : ∃ A n c, OwnSmH w5 X4.heap.size w5.heap.size (.slice A n c) (copyB Y.body deep) ∧ v5 = .slice A n c := by
        have h6 := OwnSm.toH hi5
        obtain ⟨A, c, e6, -⟩ := h6.form
        exact ⟨A, _, c, by rw [← e6]; exact h6, e6⟩
      obtain ⟨L0, hL0⟩ : ∃ L, L = X4.heap.size := ⟨_, rfl⟩
      rw [← hL0] at hN5
      have hs5 := hb5.size
      have e5 := e4.below hb5 (by omega)
      have hp5 : PrsIn w5 (fun b => wo.heap.size + 1 ≤ b ∧ b < L0) Y.pairs (.slice A3 n3 c3) := hp4.keep (fun b hb => hb5.block b hb.2) (fun b hb => ⟨hb.1, by omega⟩)
      have hw5b : Below wo.heap.size wo w5 := hx4b.trans (hb5.mono (by omega))
      obtain ⟨X6, hX6⟩ : ∃ X6 : World, X6 = w5.setCell ⟨wo.heap.size, 6, none⟩ (.slice A5 n5 c5) := ⟨_, rfl⟩
      have x6s : X6.heap.size = w5.heap.size := by rw [hX6]; simp
      have hx6b : Below wo.heap.size wo X6 := by rw [hX6]; exact hw5b.setCell (Nat.le_refl _) _
      have hk6 : ∀ b, wo.heap.size + 1 ≤ b ∧ b < w5.heap.size → X6.heap[b]? = w5.heap[b]? := fun b hb => by
        rw [hX6]
        exact Below.heap_setCell _ _ _ b (show b ≠ wo.heap.size by omega)
      obtain ⟨X7, hX7⟩ : ∃ X7 : World, X7 = X6.alloc (.cells #[.int .i64 yk, .int .i64 yp, .int .i64 yu, .string sn, .string st, .slice A3 n3 c3, .slice A5 n5 c5] 31) := ⟨_, rfl⟩
      have x7s : X7.heap.size = w5.heap.size + 1 := by rw [hX7]; simp; omega
      have hx67 : Below X6.heap.size X6 X7 := by rw [hX7]; exact (Below.refl _ X6).alloc (Nat.le_refl _) _
      have hx7b : Below wo.heap.size wo X7 := hx6b.trans (hx67.mono (by omega))
      have hk7 : ∀ b, wo.heap.size + 1 ≤ b ∧ b < w5.heap.size → X7.heap[b]? = w5.heap[b]? := fun b hb => (hx67.block b (by omega)).trans (hk6 b hb)
      have ho7 : Apart X7 (g + 3) wo.heap.size u ((ds.take j).map (copyD · deep)) := HO.out.keep (Nat.le_refl _) (fun b _ hb => hx7b.block b hb)
      have hnew : ∀ q y, (dcCells (copyD Y deep) ⟨.slice A3 n3 c3, .slice A5 n5 c5⟩)[q]? = some y → X7.cell? ((⟨w5.heap.size, 0, none⟩ : Addr).add q) = some y := fun q y hq => by
        rw [HCL.out] at hq
        rw [hX7, ← x6s, add_pl, Nat.zero_add, cell_of_row _ _ q _ _ (0, 0) (heap_alloc_new X6 _)]
        simpa using hq
      have hun : PrsIn X7 (fun b => wo.heap.size + 1 ≤ b ∧ b < L0) Y.pairs (.slice A3 n3 c3) := hp5.keep (fun b hb => hk7 b ⟨hb.1, by omega⟩) (fun _ e => e)
      have hun2 : OwnSmH X7 L0 w5.heap.size (.slice A5 n5 c5) (copyB Y.body deep) := hN5.keep (fun b e1 e2 => hk7 b ⟨by omega, e2⟩)
      have hr7 : g + 3 ≤ wo.heap.size + 1 ∧ wo.heap.size ≤ wo.heap.size + 1 ∧ wo.heap.size + 1 ≤ L0 ∧ L0 ≤ w5.heap.size ∧ w5.heap.size ≤ X7.heap.size := ⟨by omega, by omega, by omega, by omega, by omega⟩
      have hu6 : OneBlk X6 (g + 2) u := HU.out.below hx6b (by omega)
      have hu7 : OneBlk X7 (g + 2) u := HU.out.below hx7b (by omega)
      have hx7g : Below (g + 2) X X7 := HBL.out.trans (hx7b.mono (by omega))
      have hg7 : g + 3 < X7.heap.size := by omega
      have hlen : ((ds.take j).map (copyD · deep)).length ≤ 1000000 := by
        rw [List.length_map, List.length_take]
        omega
      have o6 := hu6.c0
      rw [hX6] at o6
      rw [hX7, hX6] at ho7 hnew hun hun2 hr7 hu7 hx7g hg7
      have HO7 := Lib.hid ho7
      have HNEW := Lib.hid hnew
      have HUN := Lib.hid hun
      have HUN2 := Lib.hid hun2
      have HR7 := Lib.hid hr7
      have HU7 := Lib.hid hu7
      have HX7G := Lib.hid hx7g
      have HG7 := Lib.hid hg7
      have HLEN := Lib.hid hlen
      clear f0 f5 f6 f55
      have f0 := e5.c0
      have f1 := e5.c1
      have f2 := e5.c2
      have f3 := e5.c3
      have f4 := e5.c4
      have f5 := e5.c5
      have f6 := e5.c6
      have f66 := e5.fr 6
      clear ho7 hnew hun hun2 hr7 hL0 hu6 hu7 hx7g hg7 hlen hk7 hx7b hx67 x7s hX7 hk6 hx6b x6s hX6 hw5b hp5 e5 hs5 hN5 hi5 hb5 hp4 hx4b e4 x4s hw3b hgs hX4 hgr3 hp3 e3 X7 X6 X4 r0 r1 r2 r3 r4 r5 r6 y0 y5 y0' y5'
      go_wp2_with (first
        | (at_builtin; go_loud (refine wpList_append_ap rfl _ _ rfl (g + 3) wo.heap.size u ((ds.take j).map (copyD · deep)) rfl HO7.out ⟨w5.heap.size, 0, none⟩ 1 (copyD Y deep) ⟨.slice A3 n3 c3, .slice A5 n5 c5⟩ rfl HNEW.out (wo.heap.size + 1) L0 w5.heap.size ⟨HNM.out, HTY.out⟩ HUN.out HUN2.out HR7.out HLEN.out ?_; go_loud (intro v8 w8 hown8 hgr8; obtain ⟨A8, n8, c8, rfl⟩ : ∃ A n c, v8 = .slice A n c := (by obtain ⟨A, c, _, _, h, _⟩ := hown8.dcs; exact ⟨A, _, c, h⟩); have e8 : OneBlk w8 (g + 2) u := (hgr8.block (g + 2) (by have := HG7.out; omega) (fun e => by have := (HO.out.lt e.symm).1; omega)).trans HU7.out; have l0 := e8.c0; have l1 := e8.fr 0))))
      go_roundw
      case rel =>
        have hb8 := (HX7G.out.grown hgr8 (by have := HG7.out; omega) (fun q hq => by have := (HO.out.lt hq).1; omega)).setCell (p := ⟨g + 2, 0, none⟩) (Nat.le_refl _) (.slice A8 n8 c8)
        exact ⟨j + 1, _, by omega, by go_num, Lib.hid (e8.set _), Lib.hid (by rw [HCT.out]; exact hown8.keep (by simp) (fun b h1 h2 => Below.heap_setCell _ _ _ b (show b ≠ g + 2 by omega))), Lib.hid hb8, by have h1 := hgr8.size; have h2 := HG7.out; simp; omega⟩
      case measure => simp [intOf]; omega
    · have hall : (ds.take j).map (copyD · deep) = ds.map (copyD · deep) := by rw [List.take_of_length_le (by rw [← HNS.out]; omega)]
      rw [hall] at HO
      obtain ⟨A5, n5, c5, rfl⟩ : ∃ A n c, u = .slice A n c := by
        obtain ⟨A, c, _, _, h, _⟩ := HO.out.dcs
        exact ⟨A, _, c, h⟩
      have hb2 := HX2.out.below HBL.out (by omega)
      have m0 := hb2.c0
      have m1 := hb2.fr 0
      have n0 := HU.out.c0
      clear hall HHA HP HBD HSM
      go_wp2
      have hfin : Apart (wo.setCell ⟨g + 1, 0, none⟩ (.slice A5 n5 c5)) (w.heap.size + 3) (wo.setCell ⟨g + 1, 0, none⟩ (.slice A5 n5 c5)).heap.size (.slice A5 n5 c5) (ds.map (copyD · deep)) := by
        rw [← HG.out]
        exact HO.out.keep (by simp) (fun b h1 h2 => Below.heap_setCell _ _ _ b (show b ≠ g + 1 by omega))
      have hbel : Below w.heap.size w (wo.setCell ⟨g + 1, 0, none⟩ (.slice A5 n5 c5)) := by
        rw [← HG.out]
        exact (HXB.out.trans (HBL.out.mono (by omega))).setCell (by simp) _
      exact bodyPost_ret (v := .agg #[.slice A5 n5 c5]) (by simp [results, Tryd.results6, go_sem, m0]) rfl ⟨_, rfl, hfin, hbel⟩
end Go.Proofs.YtjpphbjnakalhaaDoor
