/- Up Ur Us Ut -/
import Derived.Test.YtjpphbjnakalhaaDoorZe5
import Derived.StillTailTactics
import Derived.IntWalk
section
set_option linter.unusedVariables false
namespace Go.Proofs.YtjpphbjnakalhaaDoor
open Go.RowKit
def DcsPost (w : World) (ds : List Dc) (e : Ending) (w' : World) : Prop :=
  ∃ v, e = .returned (.agg #[v]) ∧ DcsIn w' (fun b => w.heap.size ≤ b ∧ b < w'.heap.size) ds v ∧ Below w.heap.size w w'
def OneBlk (w : World) (g : Nat) (u : Value) : Prop := w.heap[g]? = some (.cells #[u] 24 (0, 0))
section
variable {w w' : World} {g B : Nat} {u : Value}
theorem OneBlk.new (w : World) (u : Value) : OneBlk (w.alloc (.cells #[u] 24)) w.heap.size u := heap_alloc_new w _
theorem OneBlk.below (h : OneBlk w g u) (hb : Below B w w') (hg : g < B) : OneBlk w' g u := (hb.block g hg).trans h
theorem OneBlk.c0 (h : OneBlk w g u) : w.cell? ⟨g, 0, none⟩ = some u := by rw [cell_of_row w g 0 _ _ (0, 0) h]; rfl
theorem OneBlk.fr (h : OneBlk w g u) (j : Nat) : w.frozen? ⟨g, j, none⟩ = false := frozen_of_row w g j _ _ h
theorem OneBlk.set (h : OneBlk w g u) (x : Value) : OneBlk (w.setCell ⟨g, 0, none⟩ x) g x := by
  unfold OneBlk at h ⊢
  simp [World.setCell, Array.getElem?_modify, h]
end
set_option maxHeartbeats 4000000 in
set_option maxRecDepth 100000 in
theorem copyp_any {w0 : World} {B : Nat} {ds : List Dc} {v : Value} (h : DcsIn w0 (· < B) ds v) (hsm : ∀ (k : Nat) (hk : k < ds.length), smallD 1000000 ds[k]) (hn6 : ds.length ≤ 1000000) (deep : Int) (w : World) (hb : Below B w0 w) (hB : B ≤ w.heap.size) (hd0 : -100000 ≤ deep) (hd : deep ≤ 100000) :
    Calls Tryd.prog 6 #[.agg #[v], .int .i64 deep] w (DcsPost w (ds.map (copyD · deep))) := by
  obtain ⟨A, c, fp, fb, rfl, hc, hM, hA, hp, hbd⟩ := h
  obtain ⟨ns, hns⟩ : ∃ ns, ns = ds.length := ⟨_, rfl⟩
  rw [← hns] at hc hn6 ⊢
  have HNS := Lib.hid hns
  have HP := Lib.hid hp
  have HBD := Lib.hid hbd
  have HHA := Lib.hid hA
  have HB0 := Lib.hid hb
  have HSM := Lib.hid hsm
  clear hns hp hbd hA hb hsm
  go_enter Tryd.func6, Tryd.ntmps6
  go_wp2
  obtain ⟨X, hX⟩ : ∃ X : World, X = ((w.alloc (.cells #[.slice A ns c] 24)).alloc (.cells #[.slice none 0 0] 24)).alloc (.cells #[.slice none 0 0] 24) := ⟨_, rfl⟩
  obtain ⟨g, hg⟩ : ∃ g, g = w.heap.size := ⟨_, rfl⟩
  have hx1 : OneBlk X g (.slice A ns c) := by
    rw [hX, hg]
    exact ((OneBlk.new w _).below ((Below.refl _ _).alloc (Nat.le_refl _) _) (by simp)).below ((Below.refl _ _).alloc (Nat.le_refl _) _) (by simp; omega)
  have hx2 : OneBlk X (g + 1) (.slice none 0 0) := by
    rw [hX, hg]
    have h := (OneBlk.new (w.alloc (.cells #[.slice A ns c] 24)) (.slice none 0 0)).below ((Below.refl _ _).alloc (Nat.le_refl _) (.cells #[.slice none 0 0] 24)) (by simp)
    rw [show (w.alloc (.cells #[.slice A ns c] 24)).heap.size = w.heap.size + 1 from by simp] at h
    exact h
  have hx3 : OneBlk X (g + 2) (.slice none 0 0) := by
    rw [hX, hg]
    have h := OneBlk.new ((w.alloc (.cells #[.slice A ns c] 24)).alloc (.cells #[.slice none 0 0] 24)) (.slice none 0 0)
    rw [show ((w.alloc (.cells #[.slice A ns c] 24)).alloc (.cells #[.slice none 0 0] 24)).heap.size = w.heap.size + 2 from by simp] at h
    exact h
  have hxs : X.heap.size = g + 3 := by rw [hX, hg]; simp
  have hxb : Below g w X := by rw [hX, hg]; exact (((Below.refl _ w).alloc (Nat.le_refl _) _).alloc (by simp) _).alloc (by simp; omega) _
  rw [← hX, ← hg]
  have HX1 := Lib.hid hx1
  have HX2 := Lib.hid hx2
  have HX3 := Lib.hid hx3
  have HXS := Lib.hid hxs
  have HXB := Lib.hid hxb
  have HG := Lib.hid hg
  clear hX hx1 hx2 hx3 hxs hxb hg
  go_loopw [6] (fun i wr => ∃ (j : Nat) (u : Value), j ≤ ns ∧ i = .int .i64 j ∧ Hid (OneBlk wr (g + 2) u) ∧ Hid (OwnDc wr (g + 3) u ((ds.take j).map (copyD · deep))) ∧ Hid (Below (g + 2) X wr) ∧ g + 3 ≤ wr.heap.size) (fun i _ => ns - (intOf i).toNat)
  case atStart => exact ⟨0, _, Nat.zero_le _, rfl, HX3, Lib.hid (OwnDc.none _ _), Lib.hid (Below.refl _ _), by have := HXS.out; omega⟩
  case round =>
    obtain ⟨wo, rfl⟩ : ∃ wo : World, wo = wr := ⟨_, rfl⟩
    obtain ⟨j, u, hj, rfl, HU, HO, HBL, hws⟩ := hrel
    have hb1 := HX1.out.below HBL.out (by omega)
    have k0 := hb1.c0
    by_cases hlt : j < ns
    · have hje : j < ds.length := by rw [← HNS.out]; exact hlt
      obtain ⟨b, off, rfl, hbB, hnm, hty, p0, p1, p2, p3, p4, p5, p6⟩ := HHA.out j hje
      have hprs := HP.out j hje
      have hsms := HBD.out j hje
      obtain ⟨t1, t2, t3⟩ := HSM.out j hje
      obtain ⟨A1, c1, hf1, hc1, hM1, -⟩ := HP.out j hje
      obtain ⟨A2, c2, hf2, hc2, hM2⟩ := hsms.slice
      have hcb := copyb_any hsms t3 t2
      have hct : (ds.take (j + 1)).map (copyD · deep) = (ds.take j).map (copyD · deep) ++ [copyD ds[j] deep] := by
        rw [List.take_add_one, List.getElem?_eq_getElem hje, Option.toList_some, List.map_append, List.map_singleton]
      rw [hf1] at p5 hprs
      rw [hf2] at p6 hcb
      obtain ⟨Y, hY⟩ : ∃ Y, Y = ds[j] := ⟨_, rfl⟩
      rw [← hY] at p0 p1 p2 p3 p4 p5 p6 hnm hty hc1 hc2 hcb hct t1 hprs
      have hbw : Below B w0 wo := HB0.out.trans ((HXB.out.trans (HBL.out.mono (by omega))).mono (by rw [HG.out]; exact hB))
      have hsx : B ≤ wo.heap.size := by have := HG.out; omega
      have r0 := (hbw.cell (p := ⟨b, off + j * 7, none⟩) hbB).trans p0
      have r1 := (hbw.cell (p := ⟨b, off + j * 7 + 1, none⟩) hbB).trans p1
      have r2 := (hbw.cell (p := ⟨b, off + j * 7 + 2, none⟩) hbB).trans p2
      have r3 := (hbw.cell (p := ⟨b, off + j * 7 + 3, none⟩) hbB).trans p3
      have r4 := (hbw.cell (p := ⟨b, off + j * 7 + 4, none⟩) hbB).trans p4
      have r5 := (hbw.cell (p := ⟨b, off + j * 7 + 5, none⟩) hbB).trans p5
      have r6 := (hbw.cell (p := ⟨b, off + j * 7 + 6, none⟩) hbB).trans p6
      obtain ⟨yk, hyk⟩ : ∃ x, x = Y.kind := ⟨_, rfl⟩
      obtain ⟨yp, hyp⟩ : ∃ x, x = Y.pl := ⟨_, rfl⟩
      obtain ⟨yu, hyu⟩ : ∃ x, x = Y.num := ⟨_, rfl⟩
      obtain ⟨n1, hn1'⟩ : ∃ n1, n1 = Y.pairs.length := ⟨_, rfl⟩
      obtain ⟨m2, hm2⟩ : ∃ m2, m2 = Y.body.length := ⟨_, rfl⟩
      obtain ⟨sn, hsn⟩ : ∃ sn, sn = strOf Y.name := ⟨_, rfl⟩
      obtain ⟨st, hst⟩ : ∃ st, st = strOf Y.type := ⟨_, rfl⟩
      have hcells : ∀ p q, dcCells (copyD Y deep) ⟨p, q⟩ = [.int .i64 yk, .int .i64 yp, .int .i64 yu, .string sn, .string st, p, q] := fun p q => by rw [hyk, hyp, hyu, hsn, hst]; rfl
      rw [← hyk] at r0
      rw [← hyp] at r1
      rw [← hyu] at r2
      rw [← hsn] at r3
      rw [← hst] at r4
      rw [← hn1'] at r5 hc1 hprs t1
      rw [← hm2] at r6 hc2 hcb
      obtain ⟨X1, hX1⟩ : ∃ X1 : World, X1 = wo.alloc (.cells #[.int .i64 yk, .int .i64 yp, .int .i64 yu, .string sn, .string st, .slice A1 n1 c1, .slice A2 m2 c2] 31) := ⟨_, rfl⟩
      obtain ⟨X2, hX2⟩ : ∃ X2 : World, X2 = X1.alloc (.cells #[] 44) := ⟨_, rfl⟩
      have hx1s : X1.heap.size = wo.heap.size + 1 := by rw [hX1]; simp
      have hx2s : X2.heap.size = wo.heap.size + 2 := by rw [hX2]; simp; omega
      have hx1 : DcBlk X1 wo.heap.size yk yp yu sn st (.slice A1 n1 c1) (.slice A2 m2 c2) := by rw [hX1]; exact DcBlk.new wo _ _ _ _ _ _ _
      have hx12 : Below X1.heap.size X1 X2 := by rw [hX2]; exact (Below.refl _ X1).alloc (Nat.le_refl _) _
      have hx2 := hx1.below hx12 (by omega)
      have hx1b : Below wo.heap.size wo X1 := by rw [hX1]; exact (Below.refl _ wo).alloc (Nat.le_refl _) _
      have hx2b : Below wo.heap.size wo X2 := hx1b.trans (hx12.mono (by omega))
      have hp2 : PrsIn X2 (· < B) Y.pairs (.slice A1 n1 c1) := hprs.keep (fun b hb => (hbw.trans (hx2b.mono hsx)).block b hb) (fun _ hb => hb)
      have hg2 : X2.heap[wo.heap.size + 1]? = some (.cells #[] 44 (0, 0)) := by rw [hX2, ← hx1s]; exact heap_alloc_new X1 _
      have y0 := hx2.c0
      have y5 := hx2.c5
      rw [hX2, hX1] at y0 y5
      have y0' := hx1.c0
      have y5' := hx1.c5
      rw [hX1] at y0' y5'
      have hsz2 : wo.heap.size + 1 < X2.heap.size := by omega
      have hx2c := hx2
      rw [hX2, hX1] at hp2 hg2 hsz2 hx2
      have HSZ2 := Lib.hid hsz2
      have HX1E := Lib.hid hX1
      have HX2E := Lib.hid hX2
      have HX2S := Lib.hid hx2s
      have HX2B := Lib.hid hx2b
      have HXK := Lib.hid hx2
      have HXKC := Lib.hid hx2c
      have HP2 := Lib.hid hp2
      have HG2 := Lib.hid hg2
      have HCB := Lib.hid hcb
      have HCT := Lib.hid hct
      have HCL := Lib.hid hcells
      have HNM := Lib.hid hnm
      have HTY := Lib.hid hty
      have HT1 := Lib.hid t1
      have HN1 := Lib.hid hn1'
      clear hX1 hX2 hx1s hx2s hx2b hx2 hx2c hsz2 hx1 hx1b hx12 hp2 hg2 hcb hct hcells hprs hsms t1 t2 t3 hnm hty hyk hyp hyu hn1' hm2 hsn hst hY hf1 hf2 p0 p1 p2 p3 p4 p5 p6 HHA HP HBD HSM
      go_wp2_with (first
        | (at_builtin; go_loud (refine wpList_append_prs rfl _ _ rfl (wo.heap.size + 1) rfl HG2.out HSZ2.out (· < B) Y.pairs (.slice A1 n1 c1) rfl HP2.out (by rw [← HN1.out]; exact HT1.out) ?_; go_loud (intro v3 w3 hp3 hgr3; obtain ⟨A3, n3, c3, rfl⟩ : ∃ A n c, v3 = .slice A n c := (by obtain ⟨A, c, h, _⟩ := hp3; exact ⟨A, _, c, h⟩); have e3 : DcBlk w3 wo.heap.size yk yp yu sn st (.slice A1 n1 c1) (.slice A2 m2 c2) := (hgr3.block wo.heap.size (by have := HSZ2.out; omega) (by simp)).trans HXK.out; have f0 := e3.c0; have f5 := e3.c5; have f6 := e3.c6; have f55 := e3.fr 5))))
      rw [← HX1E.out, ← HX2E.out] at hgr3 hp3
      obtain ⟨X4, hX4⟩ : ∃ X4 : World, X4 = w3.setCell ⟨wo.heap.size, 5, none⟩ (.slice A3 n3 c3) := ⟨_, rfl⟩
      rw [← hX4]
      have hs2 := HX2S.out
      have hgs := hgr3.size
      have hw3b : Below wo.heap.size wo w3 := HX2B.out.grown hgr3 (by omega) (fun q hq => by
        have : wo.heap.size + 1 = q := by simpa using hq
        omega)
      have x4s : X4.heap.size = w3.heap.size := by rw [hX4]; simp
      have e4 : DcBlk X4 wo.heap.size yk yp yu sn st (.slice A3 n3 c3) (.slice A2 m2 c2) := by rw [hX4]; exact e3.set5 _
      have hx4b : Below wo.heap.size wo X4 := by rw [hX4]; exact hw3b.setCell (Nat.le_refl _) _
      have hp4 : PrsIn X4 (fun b => wo.heap.size + 1 ≤ b ∧ b < X4.heap.size) Y.pairs (.slice A3 n3 c3) := by
        refine hp3.keep (fun b hb => ?_) (fun b hb => ⟨hb.1, by rw [x4s]; exact hb.2.1⟩)
        rw [hX4]
        exact Below.heap_setCell _ _ _ b (show b ≠ wo.heap.size by omega)
      refine (HCB.out deep X4 (hbw.trans (hx4b.mono hsx)) (by omega) hd0 hd).mono ?_
      rintro e w5 ⟨v5, rfl, hi5, hb5⟩
      obtain ⟨A5, n5, c5, hN5, rfl⟩ : ∃ A n c, IsSms w5 (fun b => X4.heap.size ≤ b ∧ b < w5.heap.size) (copyB Y.body deep) (.slice A n c) ∧ v5 = .slice A n c := by
        cases hi5 with
        | mk es A c f1 f2 f3 q1 q2 q3 q4 q5 q6 => exact ⟨_, _, _, .mk _ A c f1 f2 f3 q1 q2 q3 q4 q5 q6, rfl⟩
      have hs5 := hb5.size
      have e5 := e4.below hb5 (by omega)
      have hp5 : PrsIn w5 (fun b => wo.heap.size + 1 ≤ b ∧ b < w5.heap.size) Y.pairs (.slice A3 n3 c3) := hp4.keep (fun b hb => hb5.block b hb.2) (fun b hb => ⟨hb.1, by omega⟩)
      have hw5b : Below wo.heap.size wo w5 := hx4b.trans (hb5.mono (by omega))
      obtain ⟨X6, hX6⟩ : ∃ X6 : World, X6 = w5.setCell ⟨wo.heap.size, 6, none⟩ (.slice A5 n5 c5) := ⟨_, rfl⟩
      have x6s : X6.heap.size = w5.heap.size := by rw [hX6]; simp
      have hx6b : Below wo.heap.size wo X6 := by rw [hX6]; exact hw5b.setCell (Nat.le_refl _) _
      have hk6 : ∀ b, wo.heap.size + 1 ≤ b ∧ b < w5.heap.size → X6.heap[b]? = w5.heap[b]? := fun b hb => by
        rw [hX6]
        exact Below.heap_setCell _ _ _ b (show b ≠ wo.heap.size by omega)
      obtain ⟨X7, hX7⟩ : ∃ X7 : World, X7 = X6.alloc (.cells #[.int .i64 yk, .int .i64 yp, .int .i64 yu, .string sn, .string st, .slice A3 n3 c3, .slice A5 n5 c5] 31) := ⟨_, rfl⟩
      have x7s : X7.heap.size = w5.heap.size + 1 := by rw [hX7]; simp; omega
      have hx67 : Below X6.heap.size X6 X7 := by rw [hX7]; exact (Below.refl _ X6).alloc (Nat.le_refl _) _
      have hx7b : Below wo.heap.size wo X7 := hx6b.trans (hx67.mono (by omega))
      have hk7 : ∀ b, wo.heap.size + 1 ≤ b ∧ b < w5.heap.size → X7.heap[b]? = w5.heap[b]? := fun b hb => (hx67.block b (by omega)).trans (hk6 b hb)
      have ho7 : OwnDc X7 (g + 3) u ((ds.take j).map (copyD · deep)) := HO.out.below hx7b
      have hnew : ∀ q y, (dcCells (copyD Y deep) ⟨.slice A3 n3 c3, .slice A5 n5 c5⟩)[q]? = some y → X7.cell? ((⟨w5.heap.size, 0, none⟩ : Addr).add q) = some y := fun q y hq => by
        rw [HCL.out] at hq
        rw [hX7, ← x6s, add_pl, Nat.zero_add, cell_of_row _ _ q _ _ (0, 0) (heap_alloc_new X6 _)]
        simpa using hq
      have hS7 : ∀ b, wo.heap.size + 1 ≤ b ∧ b < w5.heap.size → g + 3 ≤ b ∧ b < X7.heap.size ∧ u.ownBlock ≠ some b := fun b hb => ⟨by omega, by omega, fun e => by
        have := (HO.out.lt e).2
        omega⟩
      have hun : DcIn X7 (fun b => g + 3 ≤ b ∧ b < X7.heap.size ∧ u.ownBlock ≠ some b) (copyD Y deep) ⟨.slice A3 n3 c3, .slice A5 n5 c5⟩ :=
        ⟨HNM.out, HTY.out, hp5.keep hk7 hS7, hN5.keep (fun b hb => hk7 b ⟨by omega, hb.2⟩) (fun b hb => hS7 b ⟨by omega, hb.2⟩)⟩
      have hu6 : OneBlk X6 (g + 2) u := HU.out.below hx6b (by omega)
      have hu7 : OneBlk X7 (g + 2) u := HU.out.below hx7b (by omega)
      have hx7g : Below (g + 2) X X7 := HBL.out.trans (hx7b.mono (by omega))
      have hg7 : g + 3 < X7.heap.size := by omega
      have hlen : ((ds.take j).map (copyD · deep)).length ≤ 1000000 := by
        rw [List.length_map, List.length_take]
        omega
      have o6 := hu6.c0
      rw [hX6] at o6
      rw [hX7, hX6] at ho7 hnew hun hu7 hx7g hg7
      have HO7 := Lib.hid ho7
      have HNEW := Lib.hid hnew
      have HUN := Lib.hid hun
      have HU7 := Lib.hid hu7
      have HX7G := Lib.hid hx7g
      have HG7 := Lib.hid hg7
      have HLEN := Lib.hid hlen
      clear f0 f5 f6 f55
      have f0 := e5.c0
      have f1 := e5.c1
      have f2 := e5.c2
      have f3 := e5.c3
      have f4 := e5.c4
      have f5 := e5.c5
      have f6 := e5.c6
      have f66 := e5.fr 6
      clear ho7 hnew hun hu6 hu7 hx7g hg7 hlen hS7 hk7 hx7b hx67 x7s hX7 hk6 hx6b x6s hX6 hw5b hp5 e5 hs5 hN5 hi5 hb5 hp4 hx4b e4 x4s hw3b hgs hX4 hgr3 hp3 e3 X7 X6 X4 r0 r1 r2 r3 r4 r5 r6 y0 y5 y0' y5'
      go_wp2_with (first
        | (at_builtin; go_loud (refine wpList_append_dc rfl _ _ rfl (g + 3) u ((ds.take j).map (copyD · deep)) rfl HO7.out ⟨w5.heap.size, 0, none⟩ 1 (copyD Y deep) ⟨.slice A3 n3 c3, .slice A5 n5 c5⟩ rfl HNEW.out HUN.out HLEN.out (by have := HG7.out; omega) ?_; go_loud (intro v8 w8 hown8 hgr8; obtain ⟨A8, n8, c8, rfl⟩ : ∃ A n c, v8 = .slice A n c := (by obtain ⟨A, c, _, _, h, _⟩ := hown8.dcs; exact ⟨A, _, c, h⟩); have e8 : OneBlk w8 (g + 2) u := (hgr8.block (g + 2) (by have := HG7.out; omega) (fun e => by have := (HO.out.lt e.symm).1; omega)).trans HU7.out; have l0 := e8.c0; have l1 := e8.fr 0))))
      go_roundw
      case rel =>
        have hb8 := (HX7G.out.grown hgr8 (by have := HG7.out; omega) (fun q hq => by have := (HO.out.lt hq).1; omega)).setCell (p := ⟨g + 2, 0, none⟩) (Nat.le_refl _) (.slice A8 n8 c8)
        exact ⟨j + 1, _, by omega, by go_num, Lib.hid (e8.set _), Lib.hid (by rw [HCT.out]; exact hown8.set_ (by simp) _), Lib.hid hb8, by have h1 := hgr8.size; have h2 := HG7.out; simp; omega⟩
      case measure => simp [intOf]; omega
    · have hall : (ds.take j).map (copyD · deep) = ds.map (copyD · deep) := by rw [List.take_of_length_le (by rw [← HNS.out]; omega)]
      rw [hall] at HO
      obtain ⟨A5, n5, c5, rfl⟩ : ∃ A n c, u = .slice A n c := by
        obtain ⟨A, c, _, _, h, _⟩ := HO.out.dcs
        exact ⟨A, _, c, h⟩
      have hb2 := HX2.out.below HBL.out (by omega)
      have m0 := hb2.c0
      have m1 := hb2.fr 0
      have n0 := HU.out.c0
      clear hall HHA HP HBD HSM
      go_wp2
      have hfin : DcsIn (wo.setCell ⟨g + 1, 0, none⟩ (.slice A5 n5 c5)) (fun b => w.heap.size ≤ b ∧ b < (wo.setCell ⟨g + 1, 0, none⟩ (.slice A5 n5 c5)).heap.size) (ds.map (copyD · deep)) (.slice A5 n5 c5) := by
        refine HO.out.dcs.keep (fun b hb => ?_) (fun b hb => ⟨by have := HG.out; omega, by simpa using hb.2⟩)
        exact Below.heap_setCell _ _ _ b (show b ≠ g + 1 by omega)
      have hbel : Below w.heap.size w (wo.setCell ⟨g + 1, 0, none⟩ (.slice A5 n5 c5)) := by
        rw [← HG.out]
        exact (HXB.out.trans (HBL.out.mono (by omega))).setCell (by simp) _
      exact bodyPost_ret (v := .agg #[.slice A5 n5 c5]) (by simp [results, Tryd.results6, go_sem, m0]) rfl ⟨_, rfl, hfin, hbel⟩
end Go.Proofs.YtjpphbjnakalhaaDoor
end
section
set_option linter.unusedVariables false
namespace Go.Proofs.YtjpphbjnakalhaaDoor
open Go.RowKit
mutual
theorem weigh_pos : ∀ (e : Ex) (m d : Int), 0 ≤ m → 1 ≤ weigh e m d
  | .mk k p n s xs, m, d, h => by
    rw [weigh]
    split
    · omega
    · have := weighs_mono xs (1 + (s.length : Int)) m d
      omega
theorem weighs_mono : ∀ (es : List Ex) (n m d : Int), n ≤ weighs es n m d
  | [], n, m, d => by rw [weighs]; exact Int.le_refl _
  | e :: es, n, m, d => by
    rw [weighs]
    split
    · rename_i hle
      have h1 := weigh_pos e (m - n) (d - 1) (by omega)
      have h2 := weighs_mono es (n + weigh e (m - n) (d - 1)) m d
      omega
    · exact Int.le_refl _
end
mutual
theorem weigh_light : ∀ (e : Ex) (m d cd : Int) (N : Nat), weigh e m d ≤ m → 0 ≤ d → d ≤ cd → m ≤ (N : Int) → smallE N e ∧ copyE e cd = e
  | .mk k p n s xs, m, d, cd, N, h, h0, h1, h2 => by
    rw [weigh] at h
    rw [smallE, copyE]
    split at h
    · omega
    · rename_i hne
      have hm := weighs_mono xs (1 + (s.length : Int)) m d
      cases xs with
      | nil => exact ⟨⟨by omega, by simp, by rw [smallEs]; trivial⟩, by rw [copyEs]⟩
      | cons x xs =>
        have hd : 0 < d := by
          rcases Int.lt_or_le 0 d with h3 | h3
          · exact h3
          · exact absurd ⟨by omega, by simp⟩ hne
        obtain ⟨a1, a2, a3⟩ := weighs_light (x :: xs) (1 + (s.length : Int)) m d cd N h (by omega) hd h1 h2
        exact ⟨⟨by omega, by omega, a2⟩, by rw [a3]⟩
theorem weighs_light : ∀ (es : List Ex) (n m d cd : Int) (N : Nat), weighs es n m d ≤ m → 0 ≤ n → 0 < d → d ≤ cd → m ≤ (N : Int) → n + (es.length : Int) ≤ m ∧ smallEs N es ∧ copyEs es cd = es
  | [], n, m, d, cd, N, h, h0, h1, h2, h3 => by
    rw [weighs] at h
    exact ⟨by simpa using h, by rw [smallEs]; trivial, by rw [copyEs]⟩
  | e :: es, n, m, d, cd, N, h, h0, h1, h2, h3 => by
    rw [weighs] at h
    split at h
    · rename_i hle
      have p1 := weigh_pos e (m - n) (d - 1) (by omega)
      have p2 := weighs_mono es (n + weigh e (m - n) (d - 1)) m d
      obtain ⟨a1, a2⟩ := weigh_light e (m - n) (d - 1) (cd - 1) N (by omega) (by omega) (by omega) (by omega)
      obtain ⟨b1, b2, b3⟩ := weighs_light es _ m d cd N h (by omega) h1 h2 h3
      refine ⟨by simp; omega, by rw [smallEs]; exact ⟨a1, b2⟩, by rw [copyEs, if_pos (by omega), a2, b3]⟩
    · omega
end
theorem weighs_map : ∀ (es : List Ex) (n m d cd : Int) (N : Nat), weighs es n m d ≤ m → 0 ≤ n → 0 < d → d ≤ cd + 1 → m ≤ (N : Int) → n + (es.length : Int) ≤ m ∧ smallEs N es ∧ es.map (copyE · cd) = es
  | [], n, m, d, cd, N, h, h0, h1, h2, h3 => by
    rw [weighs] at h
    exact ⟨by simpa using h, by rw [smallEs]; trivial, rfl⟩
  | e :: es, n, m, d, cd, N, h, h0, h1, h2, h3 => by
    rw [weighs] at h
    split at h
    · rename_i hle
      have p1 := weigh_pos e (m - n) (d - 1) (by omega)
      have p2 := weighs_mono es (n + weigh e (m - n) (d - 1)) m d
      obtain ⟨a1, a2⟩ := weigh_light e (m - n) (d - 1) cd N (by omega) (by omega) (by omega) (by omega)
      obtain ⟨b1, b2, b3⟩ := weighs_map es _ m d cd N h (by omega) h1 h2 h3
      refine ⟨by simp; omega, by rw [smallEs]; exact ⟨a1, b2⟩, by rw [List.map_cons, a2, b3]⟩
    · omega
end Go.Proofs.YtjpphbjnakalhaaDoor
end
section
set_option linter.unusedVariables false
namespace Go.Proofs.YtjpphbjnakalhaaDoor
open Go.RowKit
theorem goS_three (s : Sm) (n most deep : Int) : ∃ n2 n3, n2 = weighs s.exprs (n + (1 + (s.name.length : Int) + (s.type.length : Int))) most 61 ∧
    n3 = (if n2 ≤ most then n2 + weighB s.body (most - n2) (deep - 1) else n2) ∧ goS s n most deep = if n3 ≤ most then n3 + weighB s.els (most - n3) (deep - 1) else n3 :=
  ⟨_, _, rfl, rfl, goS_eq s n most deep rfl rfl⟩
theorem weighB_nonneg_of {ss : List Sm} {m d : Int} (hm : 0 ≤ m) (h : 0 ≤ goB ss 0 m d) : 0 ≤ weighB ss m d := by
  unfold weighB
  split
  · omega
  · exact h
mutual
theorem goS_mono : ∀ (s : Sm) (n m d : Int), n + 1 ≤ goS s n m d
  | .mk k p nm ty ex bd el, n, m, d => by
    obtain ⟨n2, n3, h2, h3, h4⟩ := goS_three (.mk k p nm ty ex bd el) n m d
    rw [h4]
    have a2 : n + 1 ≤ n2 := by
      rw [h2]
      have := weighs_mono ex (n + (1 + (nm.length : Int) + (ty.length : Int))) m 61
      show n + 1 ≤ weighs ex (n + (1 + (nm.length : Int) + (ty.length : Int))) m 61
      omega
    have a3 : n2 ≤ n3 := by
      rw [h3]
      split
      · have := weighB_nonneg_of (ss := bd) (m := m - n2) (d := d - 1) (by omega) (goB_mono bd 0 (m - n2) (d - 1))
        show n2 ≤ n2 + weighB bd (m - n2) (d - 1)
        omega
      · exact Int.le_refl _
    split
    · have := weighB_nonneg_of (ss := el) (m := m - n3) (d := d - 1) (by omega) (goB_mono el 0 (m - n3) (d - 1))
      show n + 1 ≤ n3 + weighB el (m - n3) (d - 1)
      omega
    · omega
theorem goB_mono : ∀ (ss : List Sm) (n m d : Int), n ≤ goB ss n m d
  | [], n, m, d => by rw [goB]; exact Int.le_refl _
  | s :: ss, n, m, d => by
    rw [goB]
    split
    · have h1 := goS_mono s n m d
      have h2 := goB_mono ss (goS s n m d) m d
      omega
    · exact Int.le_refl _
end
theorem weighB_nonneg (ss : List Sm) (m d : Int) (hm : 0 ≤ m) : 0 ≤ weighB ss m d := weighB_nonneg_of hm (goB_mono ss 0 m d)
mutual
theorem goS_light : ∀ (s : Sm) (n m d cd : Int) (N : Nat), goS s n m d ≤ m → 0 ≤ n → 0 < d → d + 60 ≤ cd → m ≤ (N : Int) → smallS N s ∧ copyS s cd = s
  | .mk k p nm ty ex bd el, n, m, d, cd, N, h, h0, hd, h1, h2 => by
    obtain ⟨n2, n3, e2, e3, e4⟩ := goS_three (.mk k p nm ty ex bd el) n m d
    rw [e4] at h
    have b3 : n3 ≤ m := by
      by_cases h3 : n3 ≤ m
      · exact h3
      · rw [if_neg h3] at h; exact h
    rw [if_pos b3] at h
    have b2 : n2 ≤ m := by
      by_cases h3 : n2 ≤ m
      · exact h3
      · rw [if_neg h3] at e3; omega
    rw [if_pos b2] at e3
    have b0 : n + (1 + (nm.length : Int) + (ty.length : Int)) ≤ n2 := by
      rw [e2]
      exact weighs_mono ex (n + (1 + (nm.length : Int) + (ty.length : Int))) m 61
    have b2' : weighs ex (n + (1 + (nm.length : Int) + (ty.length : Int))) m 61 ≤ m := by
      have e : n2 = weighs ex (n + (1 + (nm.length : Int) + (ty.length : Int))) m 61 := e2
      omega
    obtain ⟨c1, c2, c3⟩ := weighs_map ex _ m 61 cd N b2' (by omega) (by omega) (by omega) h2
    have w1 := weighB_nonneg bd (m - n2) (d - 1) (by omega)
    have w2 := weighB_nonneg el (m - n3) (d - 1) (by omega)
    have e3' : n3 = n2 + weighB bd (m - n2) (d - 1) := e3
    have h' : n3 + weighB el (m - n3) (d - 1) ≤ m := h
    obtain ⟨d1, d2, d3⟩ := weighB_light bd (m - n2) (d - 1) (cd - 1) N (by omega) (by omega) (by omega) (by omega)
    obtain ⟨f1, f2, f3⟩ := weighB_light el (m - n3) (d - 1) (cd - 1) N (by omega) (by omega) (by omega) (by omega)
    rw [smallS, copyS]
    exact ⟨⟨by omega, by omega, by omega, c2, by omega, d2, by omega, f2⟩, by rw [c3, d3, f3]⟩
theorem goB_light : ∀ (ss : List Sm) (n m d cd : Int) (N : Nat), goB ss n m d ≤ m → 0 ≤ n → 0 < d → d + 60 ≤ cd → m ≤ (N : Int) → n + (ss.length : Int) ≤ m ∧ smallSs N ss ∧ copyB ss cd = ss
  | [], n, m, d, cd, N, h, h0, hd, h1, h2 => by
    rw [goB] at h
    exact ⟨by simpa using h, by rw [smallSs]; trivial, by rw [copyB]⟩
  | s :: ss, n, m, d, cd, N, h, h0, hd, h1, h2 => by
    rw [goB] at h
    split at h
    · have p1 := goS_mono s n m d
      have p2 := goB_mono ss (goS s n m d) m d
      obtain ⟨a1, a2⟩ := goS_light s n m d cd N (by omega) h0 hd h1 h2
      obtain ⟨b1, b2, b3⟩ := goB_light ss _ m d cd N h (by omega) hd h1 h2
      refine ⟨by simp; omega, by rw [smallSs]; exact ⟨a1, b2⟩, by rw [copyB, if_pos (by omega), a2, b3]⟩
    · omega
theorem weighB_light : ∀ (ss : List Sm) (m d cd : Int) (N : Nat), weighB ss m d ≤ m → 0 ≤ d → d + 60 ≤ cd → m ≤ (N : Int) → (ss.length : Int) ≤ m ∧ smallSs N ss ∧ copyB ss cd = ss
  | [], m, d, cd, N, h, hd, h1, h2 => by
    unfold weighB at h
    rw [if_neg (by simp), goB] at h
    exact ⟨by simpa using h, by rw [smallSs]; trivial, by rw [copyB]⟩
  | s :: ss, m, d, cd, N, h, hd, h1, h2 => by
    unfold weighB at h
    split at h
    · omega
    · rename_i hne
      have hd' : 0 < d := by
        rcases Int.lt_or_le 0 d with h3 | h3
        · exact h3
        · exact absurd ⟨by omega, by simp⟩ hne
      rw [goB] at h
      split at h
      · have p1 := goS_mono s 0 m d
        have p2 := goB_mono ss (goS s 0 m d) m d
        obtain ⟨a1, a2⟩ := goS_light s 0 m d cd N (by omega) (Int.le_refl _) hd' h1 h2
        obtain ⟨b1, b2, b3⟩ := goB_light ss _ m d cd N h (by omega) hd' h1 h2
        refine ⟨by simp; omega, by rw [smallSs]; exact ⟨a1, b2⟩, by rw [copyB, if_pos (by omega), a2, b3]⟩
      · omega
end
end Go.Proofs.YtjpphbjnakalhaaDoor
end
section
set_option linter.unusedVariables false
namespace Go.Proofs.YtjpphbjnakalhaaDoor
open Go.RowKit
theorem goP_mono : ∀ (ps : List Pr) (n m : Int), n ≤ goP ps n m
  | [], n, m => by rw [goP]; exact Int.le_refl _
  | p :: ps, n, m => by
    rw [goP]
    split
    · have := goP_mono ps (n + (1 + (p.name.length : Int) + (p.type.length : Int))) m
      omega
    · exact Int.le_refl _
theorem goP_light : ∀ (ps : List Pr) (n m : Int), goP ps n m ≤ m → n + (ps.length : Int) ≤ m
  | [], n, m, h => by rw [goP] at h; simpa using h
  | p :: ps, n, m, h => by
    rw [goP] at h
    split at h
    · have := goP_light ps _ m h
      simp
      omega
    · omega
theorem goD_two (s : Dc) (n most deep : Int) : ∃ n2, n2 = goP s.pairs (n + (1 + (s.name.length : Int) + (s.type.length : Int))) most ∧ goD s n most deep = if n2 ≤ most then n2 + weighB s.body (most - n2) deep else n2 := ⟨_, rfl, rfl⟩
theorem goD_mono (s : Dc) (n m d : Int) : n + 1 ≤ goD s n m d := by
  obtain ⟨n2, e2, e4⟩ := goD_two s n m d
  have h := goP_mono s.pairs (n + (1 + (s.name.length : Int) + (s.type.length : Int))) m
  rw [e4]
  split
  · have := weighB_nonneg s.body (m - n2) d (by omega)
    omega
  · omega
theorem goDs_mono : ∀ (ds : List Dc) (n m d : Int), n ≤ goDs ds n m d
  | [], n, m, d => by rw [goDs]; exact Int.le_refl _
  | s :: ss, n, m, d => by
    rw [goDs]
    split
    · have h1 := goD_mono s n m d
      have h2 := goDs_mono ss (goD s n m d) m d
      omega
    · exact Int.le_refl _
theorem goD_light (s : Dc) (n m d cd : Int) (N : Nat) (h : goD s n m d ≤ m) (h0 : 0 ≤ n) (hd : 0 ≤ d) (h1 : d + 60 ≤ cd) (h2 : m ≤ (N : Int)) : smallD N s ∧ copyD s cd = s := by
  obtain ⟨n2, e2, e4⟩ := goD_two s n m d
  have hp := goP_mono s.pairs (n + (1 + (s.name.length : Int) + (s.type.length : Int))) m
  rw [e4] at h
  have b2 : n2 ≤ m := by
    by_cases h3 : n2 ≤ m
    · exact h3
    · rw [if_neg h3] at h; exact h
  rw [if_pos b2] at h
  have hl := goP_light s.pairs _ m (by rw [← e2]; exact b2)
  have hw := weighB_nonneg s.body (m - n2) d (by omega)
  obtain ⟨d1, d2, d3⟩ := weighB_light s.body (m - n2) d cd N (by omega) hd h1 (by omega)
  refine ⟨⟨by omega, by omega, d2⟩, ?_⟩
  unfold copyD
  rw [d3]
theorem goDs_light : ∀ (ds : List Dc) (n m d cd : Int) (N : Nat), goDs ds n m d ≤ m → 0 ≤ n → 0 ≤ d → d + 60 ≤ cd → m ≤ (N : Int) → n + (ds.length : Int) ≤ m ∧ (∀ (k : Nat) (hk : k < ds.length), smallD N ds[k]) ∧ ds.map (copyD · cd) = ds
  | [], n, m, d, cd, N, h, h0, hd, h1, h2 => by
    rw [goDs] at h
    exact ⟨by simpa using h, fun k hk => absurd hk (by simp), rfl⟩
  | s :: ss, n, m, d, cd, N, h, h0, hd, h1, h2 => by
    rw [goDs] at h
    split at h
    · have p1 := goD_mono s n m d
      have p2 := goDs_mono ss (goD s n m d) m d
      obtain ⟨a1, a2⟩ := goD_light s n m d cd N (by omega) h0 hd h1 h2
      obtain ⟨b1, b2, b3⟩ := goDs_light ss _ m d cd N h (by omega) hd h1 h2
      refine ⟨by simp; omega, fun k hk => ?_, by rw [List.map_cons, a2, b3]⟩
      cases k with
      | zero => exact a1
      | succ k => exact b2 k (by simpa using hk)
    · omega
end Go.Proofs.YtjpphbjnakalhaaDoor
end
