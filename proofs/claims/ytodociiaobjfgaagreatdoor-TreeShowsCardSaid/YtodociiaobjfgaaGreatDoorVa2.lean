/- Um Va Vd -/
import Derived.Test.YtodociiaobjfgaaGreatDoorVa0
import Derived.Lib.ItoaNum
import Derived.Lib.AppendStr
import Derived.Lib.BufferRead
set_option linter.unusedVariables false
set_option linter.unusedSimpArgs false
namespace Go.Proofs.YtodociiaobjfgaaGreatDoor
open Go.RowKit
section
structure Pr where
 name : List UInt8
 type : List UInt8
structure Dc where
 kind : Int
 pl : Int
 num : Int
 name : List UInt8
 type : List UInt8
 pairs : List Pr
 body : List Sm
def Xcl (w : World) (S : Nat → Prop) (ps : List Pr) (v : Value) : Prop :=
 ∃ A c, v = .slice A ps.length c ∧ ps.length ≤ c ∧ c ≤ 9223372036854775807 ∧
  ∀ (k : Nat) (hk : k < ps.length), ∃ b off, A = some ⟨b, off, none⟩ ∧ S b ∧ ps[k].name.length ≤ 140737488355328 ∧ ps[k].type.length ≤ 140737488355328 ∧
   w.cell? ⟨b, off + k * 2, none⟩ = some (.string (Xaa ps[k].name)) ∧ w.cell? ⟨b, off + k * 2 + 1, none⟩ = some (.string (Xaa ps[k].type))
theorem Xcl.keep {w w' : World} {S S' : Nat → Prop} {ps : List Pr} {v : Value} (h : Xcl w S ps v) (hw : ∀ b, S b → w'.heap[b]? = w.heap[b]?) (hS : ∀ b, S b → S' b) : Xcl w' S' ps v := by
 obtain ⟨A, c, rfl, hc, hM, hA⟩ := h
 refine ⟨A, c, rfl, hc, hM, fun k hk => ?_⟩
 obtain ⟨b, off, h1, h2, h3, h4, c0, c1⟩ := hA k hk
 have hcell : ∀ i, w'.cell? ⟨b, i, none⟩ = w.cell? ⟨b, i, none⟩ := fun i => World.cell?_of_block (hw b h2)
 exact ⟨b, off, h1, hS b h2, h3, h4, by rw [hcell]; exact c0, by rw [hcell]; exact c1⟩
def Xdl (w : World) (S : Nat → Prop) (ds : List Dc) (v : Value) : Prop :=
 ∃ A c, ∃ fp fb : Nat → Value, v = .slice A ds.length c ∧ ds.length ≤ c ∧ c ≤ 9223372036854775807 ∧
  (∀ (k : Nat) (hk : k < ds.length), ∃ b off, A = some ⟨b, off, none⟩ ∧ S b ∧ ds[k].name.length ≤ 140737488355328 ∧ ds[k].type.length ≤ 140737488355328 ∧
    w.cell? ⟨b, off + k * 7, none⟩ = some (.int .i64 ds[k].kind) ∧ w.cell? ⟨b, off + k * 7 + 1, none⟩ = some (.int .i64 ds[k].pl) ∧ w.cell? ⟨b, off + k * 7 + 2, none⟩ = some (.int .i64 ds[k].num) ∧
    w.cell? ⟨b, off + k * 7 + 3, none⟩ = some (.string (Xaa ds[k].name)) ∧ w.cell? ⟨b, off + k * 7 + 4, none⟩ = some (.string (Xaa ds[k].type)) ∧
    w.cell? ⟨b, off + k * 7 + 5, none⟩ = some (fp k) ∧ w.cell? ⟨b, off + k * 7 + 6, none⟩ = some (fb k)) ∧
  (∀ (k : Nat) (hk : k < ds.length), Xcl w S ds[k].pairs (fp k)) ∧ (∀ (k : Nat) (hk : k < ds.length), Xcc w S ds[k].body (fb k))
theorem Xdl.keep {w w' : World} {S S' : Nat → Prop} {ds : List Dc} {v : Value} (h : Xdl w S ds v) (hw : ∀ b, S b → w'.heap[b]? = w.heap[b]?) (hS : ∀ b, S b → S' b) : Xdl w' S' ds v := by
 obtain ⟨A, c, fp, fb, rfl, hc, hM, hA, hp, hb⟩ := h
 refine ⟨A, c, fp, fb, rfl, hc, hM, fun k hk => ?_, fun k hk => (hp k hk).keep hw hS, fun k hk => (hb k hk).keep hw hS⟩
 obtain ⟨b, off, h1, h2, h3, h4, c0, c1, c2, c3, c4, c5, c6⟩ := hA k hk
 have hcell : ∀ i, w'.cell? ⟨b, i, none⟩ = w.cell? ⟨b, i, none⟩ := fun i => World.cell?_of_block (hw b h2)
 exact ⟨b, off, h1, hS b h2, h3, h4, by rw [hcell]; exact c0, by rw [hcell]; exact c1, by rw [hcell]; exact c2, by rw [hcell]; exact c3, by rw [hcell]; exact c4, by rw [hcell]; exact c5, by rw [hcell]; exact c6⟩
def goP : List Pr → Int → Int → Int
 | [], n, _ => n
 | p :: ps, n, most => if n ≤ most then goP ps (n + (1 + (p.name.length : Int) + (p.type.length : Int))) most else n
theorem goP_go {p : Pr} {ps : List Pr} {n most : Int} (h : n ≤ most) : goP (p :: ps) n most = goP ps (n + (1 + (p.name.length : Int) + (p.type.length : Int))) most := by
 rw [goP, if_pos h]
theorem goP_stop (ps : List Pr) (n most : Int) (h : ¬ n ≤ most) : goP ps n most = n := by
 cases ps with
 | nil => rw [goP]
 | cons s ss => rw [goP, if_neg h]
def goD (d : Dc) (n most deep : Int) : Int :=
 let n2 := goP d.pairs (n + (1 + (d.name.length : Int) + (d.type.length : Int))) most
 if n2 ≤ most then n2 + Xbs d.body (most - n2) deep else n2
def goDs : List Dc → Int → Int → Int → Int
 | [], n, _, _ => n
 | d :: ds, n, most, deep => if n ≤ most then goDs ds (goD d n most deep) most deep else n
theorem goDs_go {s : Dc} {ss : List Dc} {n most deep : Int} (h : n ≤ most) : goDs (s :: ss) n most deep = goDs ss (goD s n most deep) most deep := by
 rw [goDs, if_pos h]
theorem Xuw (ss : List Dc) (n most deep : Int) (h : ¬ n ≤ most) : goDs ss n most deep = n := by
 cases ss with
 | nil => rw [goDs]
 | cons s ss => rw [goDs, if_neg h]
def Xar (w : World) (g : Nat) (k p u : Int) (n t : ByteArray) (a b : Value) : Prop := w.heap[g]? = some (.cells #[.int .i64 k, .int .i64 p, .int .i64 u, .string n, .string t, a, b] 41 (0, 0))
section
variable {w w' : World} {g B : Nat} {k p u : Int} {n t : ByteArray} {a b : Value}
theorem Xar.new (w : World) (k p u : Int) (n t : ByteArray) (a b : Value) : Xar (w.alloc (.cells #[.int .i64 k, .int .i64 p, .int .i64 u, .string n, .string t, a, b] 41)) w.heap.size k p u n t a b := heap_alloc_new w _
theorem Xar.below (h : Xar w g k p u n t a b) (hb : Below B w w') (hg : g < B) : Xar w' g k p u n t a b := (hb.block g hg).trans h
theorem Xar.c0 (h : Xar w g k p u n t a b) : w.cell? ⟨g, 0, none⟩ = some (.int .i64 k) := by rw [cell_of_row w g 0 _ _ (0, 0) h]; rfl
theorem Xar.c1 (h : Xar w g k p u n t a b) : w.cell? ⟨g, 1, none⟩ = some (.int .i64 p) := by rw [cell_of_row w g 1 _ _ (0, 0) h]; rfl
theorem Xar.c2 (h : Xar w g k p u n t a b) : w.cell? ⟨g, 2, none⟩ = some (.int .i64 u) := by rw [cell_of_row w g 2 _ _ (0, 0) h]; rfl
theorem Xar.c3 (h : Xar w g k p u n t a b) : w.cell? ⟨g, 3, none⟩ = some (.string n) := by rw [cell_of_row w g 3 _ _ (0, 0) h]; rfl
theorem Xar.c4 (h : Xar w g k p u n t a b) : w.cell? ⟨g, 4, none⟩ = some (.string t) := by rw [cell_of_row w g 4 _ _ (0, 0) h]; rfl
theorem Xar.c5 (h : Xar w g k p u n t a b) : w.cell? ⟨g, 5, none⟩ = some a := by rw [cell_of_row w g 5 _ _ (0, 0) h]; rfl
theorem Xar.c6 (h : Xar w g k p u n t a b) : w.cell? ⟨g, 6, none⟩ = some b := by rw [cell_of_row w g 6 _ _ (0, 0) h]; rfl
theorem Xar.fr (h : Xar w g k p u n t a b) (j : Nat) : w.frozen? ⟨g, j, none⟩ = false := frozen_of_row w g j _ _ h
theorem Xar.set5 (h : Xar w g k p u n t a b) (x : Value) : Xar (w.setCell ⟨g, 5, none⟩ x) g k p u n t x b := by
 unfold Xar at h ⊢
 simp [World.setCell, Array.getElem?_modify, h]
theorem Xar.set6 (h : Xar w g k p u n t a b) (x : Value) : Xar (w.setCell ⟨g, 6, none⟩ x) g k p u n t a x := by
 unfold Xar at h ⊢
 simp [World.setCell, Array.getElem?_modify, h]
end
theorem Xmz {most : Int} (hm : most ≤ 100000) : ∀ (ps : List Pr) (n : Int), (∀ (k : Nat) (hk : k < ps.length), ps[k].name.length ≤ 140737488355328 ∧ ps[k].type.length ≤ 140737488355328) → 0 ≤ n → n ≤ most + 562949953421312 → 0 ≤ goP ps n most ∧ goP ps n most ≤ most + 562949953421312
 | [], n, _, h0, h1 => by rw [goP]; exact ⟨h0, h1⟩
 | s :: ss, n, h, h0, h1 => by
   rw [goP]
   split
   · rename_i hle
     have h2 := h 0 (by simp)
     have h3 : s.name.length ≤ 140737488355328 ∧ s.type.length ≤ 140737488355328 := h2
     exact Xmz hm ss _ (fun j hj => h (j + 1) (by simpa using hj)) (by omega) (by omega)
   · exact ⟨h0, h1⟩
theorem Xlo {ps : List Pr} {j : Nat} (h : j < ps.length) : ps.drop j = ps[j] :: ps.drop (j + 1) := List.drop_eq_getElem_cons h
theorem Xor {ps : List Dc} {j : Nat} (h : j < ps.length) : ps.drop j = ps[j] :: ps.drop (j + 1) := List.drop_eq_getElem_cons h
set_option maxHeartbeats 4000000 in
set_option maxRecDepth 100000 in
theorem Xtp {w0 : World} {B : Nat} {ds : List Dc} {v : Value} (h : Xdl w0 (· < B) ds v) (most deep : Int) (w : World) (hb : Below B w0 w) (hB : B ≤ w.heap.size) (hm0 : 0 ≤ most) (hm : most ≤ 100000) (hd0 : 0 ≤ deep) (hd : deep ≤ 100000) :
  Calls Tryz.prog 5 #[.agg #[v], .int .i64 most, .int .i64 deep] w (Xfy w (goDs ds 0 most deep)) := by
 obtain ⟨A, c, fp, fb, rfl, hc, hM, hA, hp, hbd⟩ := h
 obtain ⟨ns, hns⟩ : ∃ ns, ns = ds.length := ⟨_, rfl⟩
 rw [← hns] at hc ⊢
 have HNS := lh hns
 have HP := lh hp
 have HBD := lh hbd
 have HHA := lh hA
 have HB0 := lh hb
 clear hns hp hbd hA hb
 go_enter Tryz.func5, Tryz.ntmps5
 go_wp2
 obtain ⟨X, hX⟩ : ∃ X : World, X = w.alloc (.cells #[.slice A ns c] 24) := ⟨_, rfl⟩
 obtain ⟨g, hg⟩ : ∃ g, g = w.heap.size := ⟨_, rfl⟩
 have hx1 : X.cell? ⟨g, 0, none⟩ = some (.slice A ns c) := by rw [hX, hg, cell_of_row _ _ 0 _ _ (0, 0) (heap_alloc_new w _)]; rfl
 have hxs : X.heap.size = g + 1 := by rw [hX, hg]; simp
 have hxb : Below g w X := by rw [hX, hg]; exact (Below.refl _ w).alloc (Nat.le_refl _) _
 rw [← hX, ← hg]
 have HX1 := lh hx1
 have HXS := lh hxs
 have HXB := lh hxb
 have HG := lh hg
 clear hX hx1 hxs hxb hg
 go_loopw [7, 8] (fun n i wr => ∃ (j : Nat) (nn : Int), j ≤ ns ∧ i = .int .i64 j ∧ n = .int .i64 nn ∧ 0 ≤ nn ∧ nn ≤ 562949953521312 ∧ Hid (goDs (ds.drop j) nn most deep = goDs ds 0 most deep) ∧ Hid (Below (g + 1) X wr)) (fun _ i _ => ns - (intOf i).toNat)
 case atStart => exact ⟨0, 0, Nat.zero_le _, rfl, rfl, by omega, by omega, lh rfl, lh (Below.refl _ _)⟩
 case round =>
  obtain ⟨wo, rfl⟩ : ∃ wo : World, wo = wr := ⟨_, rfl⟩
  obtain ⟨j, nn, hj, rfl, rfl, hn0, hn1, HGO, HBL⟩ := hrel
  have k0 : wo.cell? ⟨g, 0, none⟩ = some (.slice A ns c) := (HBL.out.cell (p := ⟨g, 0, none⟩) (by simp)).trans HX1.out
  have hws : g < wo.heap.size := by have := HBL.out.size; have := HXS.out; omega
  by_cases hlt : j < ns
  · by_cases hle : nn ≤ most
    · have hje : j < ds.length := by rw [← HNS.out]; exact hlt
      obtain ⟨b, off, rfl, hbB, hnm, hty, p0, p1, p2, p3, p4, p5, p6⟩ := HHA.out j hje
      obtain ⟨A1, c1, hf1, hc1, hM1, hprs⟩ := HP.out j hje
      obtain ⟨A2, c2, hf2, hc2, hM2⟩ := (HBD.out j hje).slice
      have hib := Xto (HBD.out j hje)
      have hdr := Xor hje
      rw [hf1] at p5
      rw [hf2] at p6 hib
      obtain ⟨Y, hY⟩ : ∃ Y, Y = ds[j] := ⟨_, rfl⟩
      rw [← hY] at p0 p1 p2 p3 p4 p5 p6 hnm hty hc1 hc2 hib hdr
      have hprs' : ∀ (k : Nat) (hk : k < Y.pairs.length), ∃ b off, A1 = some ⟨b, off, none⟩ ∧ b < B ∧ Y.pairs[k].name.length ≤ 140737488355328 ∧ Y.pairs[k].type.length ≤ 140737488355328 ∧
        w0.cell? ⟨b, off + k * 2, none⟩ = some (.string (Xaa Y.pairs[k].name)) ∧ w0.cell? ⟨b, off + k * 2 + 1, none⟩ = some (.string (Xaa Y.pairs[k].type)) := by
       rw [hY]; exact hprs
      have hbw : Below B w0 wo := HB0.out.trans ((HXB.out.trans (HBL.out.mono (by omega))).mono (by rw [HG.out]; exact hB))
      have hsx : B ≤ wo.heap.size := by have := HG.out; omega
      have HGO2 : Hid (goDs (ds.drop (j + 1)) (goD Y nn most deep) most deep = goDs ds 0 most deep) := lh (by
       have := HGO.out
       rw [hdr, goDs_go hle] at this
       exact this)
      have r0 := (hbw.cell (p := ⟨b, off + j * 7, none⟩) hbB).trans p0
      have r1 := (hbw.cell (p := ⟨b, off + j * 7 + 1, none⟩) hbB).trans p1
      have r2 := (hbw.cell (p := ⟨b, off + j * 7 + 2, none⟩) hbB).trans p2
      have r3 := (hbw.cell (p := ⟨b, off + j * 7 + 3, none⟩) hbB).trans p3
      have r4 := (hbw.cell (p := ⟨b, off + j * 7 + 4, none⟩) hbB).trans p4
      have r5 := (hbw.cell (p := ⟨b, off + j * 7 + 5, none⟩) hbB).trans p5
      have r6 := (hbw.cell (p := ⟨b, off + j * 7 + 6, none⟩) hbB).trans p6
      obtain ⟨yk, hyk⟩ : ∃ x, x = Y.kind := ⟨_, rfl⟩
      obtain ⟨yp, hyp⟩ : ∃ x, x = Y.pl := ⟨_, rfl⟩
      obtain ⟨yu, hyu⟩ : ∃ x, x = Y.num := ⟨_, rfl⟩
      obtain ⟨nl, hnl⟩ : ∃ nl, nl = Y.name.length := ⟨_, rfl⟩
      obtain ⟨tl, htl⟩ : ∃ tl, tl = Y.type.length := ⟨_, rfl⟩
      obtain ⟨n1, hn1'⟩ : ∃ n1, n1 = Y.pairs.length := ⟨_, rfl⟩
      obtain ⟨m2, hm2⟩ : ∃ m2, m2 = Y.body.length := ⟨_, rfl⟩
      obtain ⟨sn, hsn⟩ : ∃ sn, sn = Xaa Y.name := ⟨_, rfl⟩
      obtain ⟨st, hst⟩ : ∃ st, st = Xaa Y.type := ⟨_, rfl⟩
      have z1 : sn.size = nl := by rw [hsn, Lib.size_eq, Xak, hnl]
      have z2 : st.size = tl := by rw [hst, Lib.size_eq, Xak, htl]
      obtain ⟨X2, hX2⟩ : ∃ X2 : Int, X2 = goP Y.pairs (nn + (1 + (nl : Int) + (tl : Int))) most := ⟨_, rfl⟩
      have hgd : goD Y nn most deep = if X2 ≤ most then X2 + Xbs Y.body (most - X2) deep else X2 := by rw [hX2, hnl, htl]; rfl
      rw [← hyk] at r0
      rw [← hyp] at r1
      rw [← hyu] at r2
      rw [← hsn] at r3
      rw [← hst] at r4
      rw [hY, ← hY, ← hn1'] at r5
      rw [← hm2] at r6 hc2 hib
      rw [← hn1'] at hc1
      rw [← hnl] at hnm
      rw [← htl] at hty
      have hx2b : 0 ≤ X2 ∧ X2 ≤ most + 562949953421312 := by
       rw [hX2]
       refine Xmz hm Y.pairs _ (fun k hk => ?_) (by omega) (by omega)
       obtain ⟨_, _, _, _, q1, q2, _⟩ := hprs' k hk
       exact ⟨q1, q2⟩
      obtain ⟨X1, hX1⟩ : ∃ X1 : World, X1 = wo.alloc (.cells #[.int .i64 yk, .int .i64 yp, .int .i64 yu, .string sn, .string st, .slice A1 n1 c1, .slice A2 m2 c2] 41) := ⟨_, rfl⟩
      have hx1 : Xar X1 wo.heap.size yk yp yu sn st (.slice A1 n1 c1) (.slice A2 m2 c2) := by rw [hX1]; exact Xar.new wo _ _ _ _ _ _ _
      have hx1s : X1.heap.size = wo.heap.size + 1 := by rw [hX1]; simp
      have hx1b : Below wo.heap.size wo X1 := by rw [hX1]; exact (Below.refl _ wo).alloc (Nat.le_refl _) _
      have y3 := hx1.c3
      have y4 := hx1.c4
      have y0 := hx1.c0
      have HX2 := lh hX2
      have HGD := lh hgd
      have HN1 := lh hn1'
      have HPR := lh hprs'
      have HIB := lh hib
      have HXK := lh hx1
      have HXS1 := lh hx1s
      have HXB1 := lh hx1b
      have HX1E := lh hX1
      have hx20 := hx2b.1
      have hx21 := hx2b.2
      have q1 : -9223372036854775808 ≤ 1 + (nl : Int) ∧ 1 + (nl : Int) ≤ 9223372036854775807 := by omega
      have q2 : -9223372036854775808 ≤ 1 + (nl : Int) + (tl : Int) ∧ 1 + (nl : Int) + (tl : Int) ≤ 9223372036854775807 := by omega
      have q3 : -9223372036854775808 ≤ nn + (1 + (nl : Int) + (tl : Int)) ∧ nn + (1 + (nl : Int) + (tl : Int)) ≤ 9223372036854775807 := by omega
      have x1 := IntWalk.i64_in _ q1
      have x2 := IntWalk.i64_in _ q2
      have x3 := IntWalk.i64_in _ q3
      clear q1 q2 q3 hX2 hgd hprs hprs' hib hx1 hx1s hx1b hX1 hx2b hdr hnl htl hn1' hm2 hsn hst hY hyk hyp hyu hf1 hf2 p0 p1 p2 p3 p4 p5 p6 HHA HP HBD y0 y3 y4
      go_wp2
      rw [← HX1E.out]
      clear x1 x2 x3 r0 r1 r2 r3 r4 r5 r6
      go_loopw [7, 10] (fun n i wr => ∃ (kk : Nat) (mm : Int), kk ≤ n1 ∧ i = .int .i64 kk ∧ n = .int .i64 mm ∧ 0 ≤ mm ∧ mm ≤ 562949953521312 ∧ Hid (goP (Y.pairs.drop kk) mm most = X2) ∧ Hid (Below X1.heap.size X1 wr)) (fun _ i _ => n1 - (intOf i).toNat)
      case atStart => exact ⟨0, _, Nat.zero_le _, rfl, rfl, by omega, by omega, lh HX2.out.symm, lh (Below.refl _ _)⟩
      case round =>
       obtain ⟨wi, rfl⟩ : ∃ wi : World, wi = wr := ⟨_, rfl⟩
       obtain ⟨kk, mm, hkk, rfl, rfl, hmm0, hmm1, HWI, HBI⟩ := hrel
       have hs1 := HXS1.out
       have hsi := HBI.out.size
       have hd1 := HXK.out.below HBI.out (by omega)
       have y0 := hd1.c0
       have y5 := hd1.c5
       have y6 := hd1.c6
       have hwb : Below wo.heap.size wo wi := HXB1.out.trans (HBI.out.mono (by omega))
       have hbi : Below B w0 wi := hbw.trans (hwb.mono hsx)
       by_cases hgo : kk < n1 ∧ mm ≤ most
       · obtain ⟨hkl, hml⟩ := hgo
         have hke : kk < Y.pairs.length := by rw [← HN1.out]; exact hkl
         obtain ⟨b', off', rfl, hbB', hnm2, hty2, p0, p1⟩ := HPR.out kk hke
         have s0 := (hbi.cell (p := ⟨b', off' + kk * 2, none⟩) hbB').trans p0
         have s1 := (hbi.cell (p := ⟨b', off' + kk * 2 + 1, none⟩) hbB').trans p1
         have hdr := Xlo hke
         obtain ⟨al, hal⟩ : ∃ nl, nl = Y.pairs[kk].name.length := ⟨_, rfl⟩
         obtain ⟨bl, hbl⟩ : ∃ tl, tl = Y.pairs[kk].type.length := ⟨_, rfl⟩
         obtain ⟨ta, hta⟩ : ∃ sn, sn = Xaa Y.pairs[kk].name := ⟨_, rfl⟩
         obtain ⟨tb, htb⟩ : ∃ st, st = Xaa Y.pairs[kk].type := ⟨_, rfl⟩
         have z3 : ta.size = al := by rw [hta, Lib.size_eq, Xak, hal]
         have z4 : tb.size = bl := by rw [htb, Lib.size_eq, Xak, hbl]
         have HWN : Hid (goP (Y.pairs.drop (kk + 1)) (mm + (1 + (al : Int) + (bl : Int))) most = X2) := lh (by
          have := HWI.out
          rw [hdr, goP_go hml] at this
          rw [hal, hbl]
          exact this)
         rw [← hta] at s0
         rw [← htb] at s1
         rw [← hal] at hnm2
         rw [← hbl] at hty2
         have q1 : -9223372036854775808 ≤ 1 + (al : Int) ∧ 1 + (al : Int) ≤ 9223372036854775807 := by omega
         have q2 : -9223372036854775808 ≤ 1 + (al : Int) + (bl : Int) ∧ 1 + (al : Int) + (bl : Int) ≤ 9223372036854775807 := by omega
         have q3 : -9223372036854775808 ≤ mm + (1 + (al : Int) + (bl : Int)) ∧ mm + (1 + (al : Int) + (bl : Int)) ≤ 9223372036854775807 := by omega
         have x1 := IntWalk.i64_in _ q1
         have x2 := IntWalk.i64_in _ q2
         have x3 := IntWalk.i64_in _ q3
         clear q1 q2 q3 hdr hal hbl hta htb p0 p1 HPR hd1
         go_wp2
         go_quiet (fail)
         clear x1 x2 x3
         generalize hwq : wi.drewN _ = wq
         have hdq : Xfu wi wq := ⟨_, hwq.symm⟩
         have hb0 : Below wi.heap.size wi wq := hdq.below
         have HB00 := lh hb0
         clear hwq hdq hb0
         go_wp2
         go_roundw
         case rel => exact ⟨kk + 1, _, by omega, by go_num, rfl, by omega, by omega, HWN, lh (HBI.out.trans (HB00.out.mono hsi))⟩
         case measure => simp [intOf]; omega
       · obtain rfl : mm = X2 := by
          have hw := HWI.out
          by_cases hkl : kk < n1
          · rw [goP_stop _ _ _ (fun h => hgo ⟨hkl, h⟩)] at hw; exact hw
          · rw [List.drop_of_length_le (by rw [← HN1.out]; omega), goP] at hw; exact hw
         have hcase : (kk < n1 ∧ ¬ mm ≤ most) ∨ kk = n1 := by
          rcases Nat.lt_or_ge kk n1 with h | h
          · exact .inl ⟨h, fun h2 => hgo ⟨h, h2⟩⟩
          · exact .inr (by omega)
         clear hgo HPR HWI hd1
         by_cases hle2 : mm ≤ most
         · have hkn : kk = n1 := by
            rcases hcase with h | h
            · exact absurd hle2 h.2
            · exact h
           clear hcase
           obtain ⟨hcb, hyb0, hyb1⟩ := HIB.out (most - mm) deep wi hbi (by omega) (by omega) (by omega) (by omega) (by omega)
           obtain ⟨yb, hyb⟩ : ∃ x, x = Xbs Y.body (most - mm) deep := ⟨_, rfl⟩
           have HG4 : Hid (goD Y nn most deep = mm + yb) := lh (by rw [HGD.out, if_pos hle2, hyb])
           rw [← hyb] at hcb hyb0 hyb1
           have HCB := lh hcb
           clear hcb hyb
           go_wp2_with (first
            | ((with_reducible refine HCB.out.mono ?_); rintro e w5 ⟨rfl, hb5⟩))
           have hs5 := hb5.size
           go_roundw
           case rel => exact ⟨j + 1, mm + yb, by omega, by go_num, rfl, by omega, by omega, lh (by rw [← HG4.out]; exact HGO2.out), lh (HBL.out.trans ((hwb.trans (hb5.mono (by omega))).mono (by omega)))⟩
           case measure => simp [intOf]; omega
         · have HG4 : Hid (goD Y nn most deep = mm) := lh (by rw [HGD.out, if_neg hle2])
           rcases hcase with ⟨h, h'⟩ | h
           all_goals
            go_wp2
            go_roundw
            case rel => exact ⟨j + 1, mm, by omega, by go_num, rfl, by omega, by omega, lh (by rw [← HG4.out]; exact HGO2.out), lh (HBL.out.trans (hwb.mono (by omega)))⟩
            case measure => simp [intOf]; omega
    · have HWS : Hid (nn = goDs ds 0 most deep) := lh (by have := HGO.out; rw [Xuw _ _ _ _ hle] at this; exact this)
      have hend : Below w.heap.size w wo := by rw [← HG.out]; exact HXB.out.trans (HBL.out.mono (by omega))
      clear HHA HP HBD
      go_wp2
      go_ret
      exact ⟨Xce HWS.out, hend⟩
  · have hje : j = ns := by omega
    have HWS : Hid (nn = goDs ds 0 most deep) := lh (by
     have := HGO.out
     rw [List.drop_of_length_le (by rw [hje, HNS.out]; exact Nat.le_refl _), goDs] at this
     exact this)
    have hend : Below w.heap.size w wo := by rw [← HG.out]; exact HXB.out.trans (HBL.out.mono (by omega))
    clear HHA HP HBD hje
    go_wp2
    go_ret
    exact ⟨Xce HWS.out, hend⟩
end
abbrev Ts := Option (List (List UInt8))
def cat (a b : Ts) : Ts := match a with
 | none => none
 | some x => match b with
   | none => none
   | some y => some (x ++ y)
theorem Xan (b : Ts) : cat none b = none := rfl
theorem Xac (a : Ts) : cat a none = none := by cases a <;> rfl
theorem Xqf (x y : List (List UInt8)) : cat (some x) (some y) = some (x ++ y) := rfl
theorem Xeh (a : Ts) : cat a (some []) = a := by cases a <;> simp [cat]
theorem Xbh (a : Ts) : cat (some []) a = a := by cases a <;> simp [cat]
theorem Xbo (a b c : Ts) : cat (cat a b) c = cat a (cat b c) := by cases a <;> cases b <;> cases c <;> simp [cat]
def Xbj : List (List UInt8) → List UInt8
 | [] => []
 | [t] => t
 | t :: u :: r => t ++ 32 :: Xbj (u :: r)
theorem Xif (t : List UInt8) {r : List (List UInt8)} (h : r ≠ []) : Xbj (t :: r) = t ++ 32 :: Xbj r := by
 cases r with
 | nil => exact absurd rfl h
 | cons u r => rfl
theorem Xiq {a b : List (List UInt8)} (ha : a ≠ []) (hb : b ≠ []) : Xbj (a ++ b) = Xbj a ++ 32 :: Xbj b := by
 induction a with
 | nil => exact absurd rfl ha
 | cons t a ih =>
   cases a with
   | nil => exact Xif t hb
   | cons u a =>
     have h := ih (by simp)
     show Xbj (t :: ((u :: a) ++ b)) = _
     rw [Xif t (by simp), Xif t (r := u :: a) (by simp), h]
     simp
theorem Xla (a : List (List UInt8)) (t : List UInt8) : Xbj (a ++ [t]) = Xbj a ++ (if a = [] then [] else [32]) ++ t := by
 by_cases h : a = []
 · subst h; simp [Xbj]
 · rw [Xiq h (by simp), if_neg h]; simp [Xbj]
theorem Xir (a b : List (List UInt8)) : (Xbj a).length ≤ (Xbj (a ++ b)).length := by
 by_cases ha : a = []
 · subst ha; simp [Xbj]
 · by_cases hb : b = []
   · subst hb; simp
   · rw [Xiq ha hb]; simp
def fits (T : List (List UInt8)) : Prop := (Xbj T).length ≤ 16384 ∧ T.length ≤ 4096
instance (T : List (List UInt8)) : Decidable (fits T) := by unfold fits; infer_instance
theorem fits_nil : fits [] := by decide
theorem Xgy {a b : List (List UInt8)} (h : fits (a ++ b)) : fits a := by
 refine ⟨Nat.le_trans (Xir a b) h.1, ?_⟩
 have := h.2
 simp at this; omega
def lim : Ts → Ts
 | none => none
 | some T => if fits T then some T else none
def adv (T : List (List UInt8)) (C : Ts) : Ts := lim (cat (some T) C)
theorem Xqd (T : List (List UInt8)) : adv T none = none := rfl
theorem Xbe {T : List (List UInt8)} (h : fits T) : adv T (some []) = some T := by simp [adv, cat, lim, h]
theorem Xep (T x : List (List UInt8)) : adv T (some x) = if fits (T ++ x) then some (T ++ x) else none := rfl
theorem Xad {T : List (List UInt8)} {C : Ts} (h : adv T C = none) (D : Ts) : adv T (cat C D) = none := by
 cases C with
 | none => rfl
 | some x =>
   cases D with
   | none => rfl
   | some y =>
     rw [Xep] at h
     rw [Xqf, Xep, if_neg]
     intro hf
     rw [← List.append_assoc] at hf
     rw [if_pos (Xgy hf)] at h
     cases h
theorem Xae {T U : List (List UInt8)} {C : Ts} (h : adv T C = some U) (D : Ts) : adv T (cat C D) = adv U D := by
 cases C with
 | none => cases h
 | some x =>
   rw [Xep] at h
   split at h
   · cases h
     cases D with
     | none => rfl
     | some y => rw [Xqf, Xep, Xep, List.append_assoc]
   · cases h
def fin (C : Ts) : List UInt8 × Int := match lim C with
 | none => ([], 23)
 | some T => (Xbj T, 0)
theorem Xmm (C : Ts) : adv [] C = lim C := by rw [adv, Xbh]
def nmT (s : List UInt8) : Ts := if Xam s = true then some [s] else none
def tyT (t : List UInt8) : Ts :=
 if t.head? = some 42 then (if Xam t.tail = true then some [[42], t.tail] else none)
 else if t = [91, 93, 105, 110, 116] then some [[91], [93], [105, 110, 116]]
 else if t = [105, 110, 116] ∨ t = [98, 111, 111, 108] then some [t] else none
def opsL : List (List UInt8) := [[43], [45], [42], [47], [37], [38], [124], [60], [60, 61], [61, 61], [33, 61]]
def Xcj (k n : Int) (s : List UInt8) (chain : Int) : Bool :=
 if k = 1 then decide (0 ≤ n ∧ n ≤ 999999999999999999 ∧ s = [])
 else if k = 2 then decide ((n = 0 ∨ n = 1) ∧ s = [])
 else if k = 3 then decide (n = 0 ∧ s = [])
 else if k = 4 then decide (n = 0 ∧ Xam s = true)
 else if k = 5 then decide (n = 0 ∧ Xam s = true ∧ chain < 8)
 else if k = 6 then decide (n = 0 ∧ s = [] ∧ chain < 8)
 else if k = 7 then decide (n = 0 ∧ s = [] ∧ chain < 8)
 else if k = 8 then decide (n = 0 ∧ s = [])
 else if k = 9 then decide (n = 0 ∧ (s = [45] ∨ s = [33]))
 else if k = 10 then decide (n = 0 ∧ s ∈ opsL)
 else if k = 11 then decide (n = 0 ∧ Xam s = true)
 else if k = 12 then decide (n = 0 ∧ s = [])
 else if k = 13 then decide (n = 0 ∧ Xam s = true)
 else false
def argsN (k : Int) : Nat := if k = 5 ∨ k = 8 ∨ k = 9 ∨ k = 12 then 1 else if k = 6 ∨ k = 10 then 2 else if k = 7 then 3 else 0
def Xbb (k : Int) : Bool := decide (k = 5 ∨ k = 6 ∨ k = 7)
def Xbg (k n : Int) (s : List UInt8) : List (List (List UInt8)) → List (List UInt8)
 | [] => if k = 1 then [Lib.itoa n] else if k = 2 then (if n = 1 then [[116, 114, 117, 101]] else [[102, 97, 108, 115, 101]]) else if k = 3 then [[110, 105, 108]]
   else if k = 4 then [s] else if k = 11 then [[110, 101, 119], s] else [[114, 101, 108, 101, 97, 115, 101], s]
 | [a] => if k = 5 then a ++ [[46], s] else if k = 8 then [[108, 101, 110], [40]] ++ a ++ [[41]] else if k = 9 then [[40], s] ++ a ++ [[41]] else [[109, 97, 107, 101], [40]] ++ a ++ [[41]]
 | [a, b] => if k = 6 then a ++ [[91]] ++ b ++ [[93]] else [[40]] ++ a ++ [s] ++ b ++ [[41]]
 | a :: b :: c :: _ => a ++ [[91]] ++ b ++ [[58]] ++ c ++ [[93]]
mutual
def penE : Ex → Int → Int → Ts
 | .mk k _ n s args, deep, chain =>
   if deep ≤ 24 ∧ Xcj k n s chain = true ∧ args.length = argsN k then (Xdt args (Xbb k) deep chain).map (Xbg k n s) else none
def Xdt : List Ex → Bool → Int → Int → Option (List (List (List UInt8)))
 | [], _, _, _ => some []
 | e :: es, b, deep, chain => match (if b = true then penE e deep (chain + 1) else penE e (deep + 1) 0) with
   | none => none
   | some x => match Xdt es false deep chain with
     | none => none
     | some xs => some (x :: xs)
end
def Xdc : List Ex → Int → Option (List (List (List UInt8)))
 | [], _ => some []
 | e :: es, deep => match penE e deep 0 with
   | none => none
   | some x => match Xdc es deep with
     | none => none
     | some xs => some (x :: xs)
def Xay (k : Int) (nm ty : List UInt8) (ex : List Ex) (nb nl : Nat) : Bool :=
 if k = 1 then decide (Xam nm = true ∧ (tyT ty).isSome = true ∧ ex.length = 1 ∧ nb = 0 ∧ nl = 0)
 else if k = 2 then decide (nm = [] ∧ ty = [] ∧ ex.length = 2 ∧ nb = 0 ∧ nl = 0) && (match ex with | [] => false | e :: _ => decide (e.kind = 4 ∨ e.kind = 5 ∨ e.kind = 6))
 else if k = 3 then decide (nm = [] ∧ ty = [] ∧ ex.length = 1)
 else if k = 4 then decide (nm = [] ∧ ty = [] ∧ ex.length = 1 ∧ nl = 0)
 else if k = 5 then decide (Xam nm = true ∧ ty = [] ∧ ex.length = 0 ∧ nb = 0 ∧ nl = 0)
 else if k = 6 then decide (Xam nm = true ∧ ty = [] ∧ ex.length = 0 ∧ nb = 0 ∧ nl = 0)
 else if k = 7 then decide (Xam nm = true ∧ ty = [] ∧ ex.length = 1 ∧ nb = 0 ∧ nl = 0)
 else if k = 8 then decide (Xam nm = true ∧ Xam ty = true ∧ ex.length = 0 ∧ nb = 0 ∧ nl = 0)
 else if k = 9 then decide (Xam nm = true ∧ ty = [] ∧ ex.length = 1 ∧ nb = 0 ∧ nl = 0)
 else if k = 10 then decide (Xam nm = true ∧ (ty = [] ∨ Xam ty = true) ∧ ex.length ≤ 4 ∧ nb = 0 ∧ nl = 0)
 else if k = 11 then decide (nm = [] ∧ ty = [] ∧ ex.length ≤ 1 ∧ nb = 0 ∧ nl = 0)
 else false
def commas : List (List (List UInt8)) → List (List UInt8)
 | [] => []
 | [a] => a
 | a :: b :: r => a ++ [44] :: commas (b :: r)
def Xbf (k : Int) : List UInt8 :=
 if k = 1 then [118, 97, 114] else if k = 2 then [115, 101, 116] else if k = 3 then [105, 102] else if k = 4 then [119, 104, 105, 108, 101] else if k = 5 then [108, 111, 99, 107]
 else if k = 6 then [117, 110, 108, 111, 99, 107] else if k = 7 then [115, 101, 110, 100] else if k = 8 then [114, 101, 99, 118] else if k = 9 then [111, 117, 116]
 else if k = 10 then [99, 97, 108, 108] else [114, 101, 116, 117, 114, 110]
def Xbc (k : Int) (nm ty : List UInt8) (xs : List (List (List UInt8))) : List (List UInt8) :=
 if k = 1 then [Xbf 1, nm] ++ (tyT ty).getD [] ++ [[61]] ++ xs.flatten ++ [[59]]
 else if k = 2 then [Xbf 2] ++ (match xs with | a :: r => a ++ [[61]] ++ r.flatten | [] => []) ++ [[59]]
 else if k = 8 then [Xbf 8, nm, ty, [59]]
 else if k = 10 then [Xbf 10] ++ (if ty = [] then [] else [ty, [61]]) ++ [nm, [40]] ++ commas xs ++ [[41], [59]]
 else if k = 11 then [Xbf 11] ++ xs.flatten ++ [[59]]
 else [Xbf k, nm] ++ xs.flatten ++ [[59]]
def Xcv (deep : Int) (c : Ts) : Ts := if deep ≤ 24 then cat (some [[123]]) (cat c (some [[125]])) else none
mutual
def penS : Sm → Int → Ts
 | .mk k _ nm ty ex bd el, deep =>
   if Xay k nm ty ex bd.length el.length = true then
    match Xdc ex (deep + 1) with
    | none => none
    | some xs =>
      if k = 3 ∨ k = 4 then cat (some ([Xbf k] ++ xs.flatten)) (cat (Xcv (deep + 1) (Xdd bd (deep + 1)))
       (if el.length = 0 then some [] else cat (some [[101, 108, 115, 101]]) (Xcv (deep + 1) (Xdd el (deep + 1)))))
      else some (Xbc k nm ty xs)
   else none
def Xdd : List Sm → Int → Ts
 | [], _ => some []
 | s :: ss, deep => cat (penS s deep) (Xdd ss deep)
end
def penB (ss : List Sm) (deep : Int) : Ts := Xcv deep (Xdd ss deep)
def Xfw (p : Pr) : Ts := cat (nmT p.name) (tyT p.type)
def Xek : List Pr → Ts
 | [] => some []
 | p :: ps => cat (cat (Xfw p) (some [[59]])) (Xek ps)
def Xdu : List Pr → Nat → Ts
 | [], _ => some []
 | p :: ps, i => cat (cat (some (if i = 0 then [] else [[44]])) (Xfw p)) (Xdu ps (i + 1))
def need (p : Prop) [Decidable p] (c : Ts) : Ts := if p then c else none
def penD (d : Dc) : Ts :=
 cat (need (Xam d.name = true) (some [])) (
 if d.kind = 1 then need (d.num = 0 ∧ d.type = [] ∧ d.pairs.length = 0 ∧ d.body.length = 0) (some [Xbf 5, d.name, [59]])
 else if d.kind = 2 then need (1 ≤ d.num ∧ d.num ≤ 4 ∧ d.type = [] ∧ d.pairs.length = 0 ∧ d.body.length = 0) (some [[99, 104, 97, 110], d.name, Lib.itoa d.num, [59]])
 else if d.kind = 3 then need (d.num = 0 ∧ d.type = [] ∧ d.pairs.length ≤ 8 ∧ d.body.length = 0) (cat (some [[115, 116, 114, 117, 99, 116], d.name, [123]]) (cat (Xek d.pairs) (some [[125]])))
 else if d.kind = 4 then need (d.num = 0 ∧ d.pairs.length = 0 ∧ d.body.length = 0) (cat (some [Xbf 1, d.name]) (cat (tyT d.type) (some [[59]])))
 else if d.kind = 5 then need (d.num = 0 ∧ d.type = [] ∧ d.pairs.length = 0 ∧ d.body.length = 0) (some [[105, 110, 112, 117, 116], d.name, [59]])
 else if d.kind = 6 then need (d.num = 0 ∧ d.type = [] ∧ d.pairs.length = 0 ∧ d.body.length = 0) (some [[115, 105, 110, 107], d.name, [59]])
 else if d.kind = 7 then need (d.num = 0 ∧ d.pairs.length ≤ 4) (cat (some [[102, 117, 110, 99], d.name, [40]]) (cat (Xdu d.pairs 0) (cat (some [[41]]) (cat (if d.type = [] then some [] else tyT d.type) (penB d.body 1)))))
 else if d.kind = 8 then need (d.num = 0 ∧ d.type = [] ∧ d.pairs.length = 0) (cat (some [[116, 104, 114, 101, 97, 100], d.name]) (penB d.body 1))
 else none)
def Xei : List Dc → Ts
 | [] => some []
 | d :: ds => cat (penD d) (Xei ds)
def penP (ds : List Dc) : Ts := need (ds.length ≤ 64) (Xei ds)
section
def byV (l : List UInt8) : List Value := l.map fun b => Value.int .u8 (b.toNat : Nat)
def Xas (w : World) (base : Nat) (v : Value) (l : List UInt8) : Prop := w.ownsRow base 5 1 v l.length (byV l)
theorem Xol (a b : List UInt8) : byV (a ++ b) = byV a ++ byV b := by simp [byV]
theorem Xlw : (Tryz.prog.info? 5).map (fun i => (i.zero, i.size, i.bytes)) = some (some (.int .u8 0), 1, 1) := by kernel_rfl
theorem Xas.nil (w : World) (base : Nat) : Xas w base (.slice none 0 0) [] := ⟨rfl, .inl ⟨rfl, rfl⟩⟩
theorem Xas.keep {w w' : World} {base : Nat} {v : Value} {l : List UInt8} (h : Xas w base v l) (hb : ∀ g, v.ownBlock = some g → w'.heap[g]? = w.heap[g]?) : Xas w' base v l := by
 unfold Xas at h ⊢
 rcases h with ⟨h1, h2 | ⟨g, cap, cur, hv, hbg, hg, h3⟩⟩
 · exact ⟨h1, .inl h2⟩
 · exact ⟨h1, .inr ⟨g, cap, cur, hv, hbg, (hb g (by rw [hv]; rfl)).trans hg, h3⟩⟩
theorem Xas.alloc {w : World} {base : Nat} {v : Value} {l : List UInt8} (h : Xas w base v l) (o : Obj) : Xas (w.alloc o) base v l := World.ownsRow.alloc h o
theorem Xas.conv {w : World} {base : Nat} {v : Value} {l : List UInt8} (h : Xas w base v l) :
  (convert 62 9 v).run Tryz.prog w = .ok (.string (Xaa l)) w := by
 rcases h with ⟨h1, ⟨rfl, h2⟩ | ⟨g, cap, cur, rfl, hbg, hg, h3, h4, h5, h6⟩⟩
 · obtain rfl : l = [] := List.eq_nil_of_length_eq_zero h2
   exact Lib.run_convert_nil_bytes w 62 9 5 0 Tryz.underlying62 Tryz.underlying5 Tryz.underlying9
 · refine run_convert_bytes_back w 62 9 5 ⟨g, 0, none⟩ cap l Tryz.underlying62 Tryz.underlying5 Tryz.underlying9 (Lib.bytes_of_row hg ?_)
   rw [Nat.mul_one] at h6
   exact h6
theorem Xas.form {w : World} {base : Nat} {v : Value} {l : List UInt8} (h : Xas w base v l) : ∃ A c, v = .slice A l.length c := by
 rcases h with ⟨h1, ⟨rfl, h2⟩ | ⟨g, cap, cur, rfl, hbg, hg, h3⟩⟩
 · exact ⟨none, 0, by rw [h2]⟩
 · exact ⟨some ⟨g, 0, none⟩, cap, rfl⟩
theorem Xas.blk {w : World} {base : Nat} {v : Value} {l : List UInt8} (h : Xas w base v l) {g : Nat} (hg : v.ownBlock = some g) : base ≤ g ∧ ∃ cur, w.heap[g]? = some (.cells cur 5 (0, 0)) := by
 rcases h with ⟨h1, ⟨rfl, h2⟩ | ⟨g', cap, cur, rfl, hbg, hg', h3⟩⟩
 · cases hg
 · have e : g' = g := by simpa [Value.ownBlock] using hg
   subst e
   exact ⟨hbg, cur, hg'⟩
theorem Xxe {w w' : World} {base : Nat} {v v' : Value} {l t : List UInt8} {ty : TypeId} (hown : Xas w base v l) (hb : l.length + t.length ≤ 100000)
  (hr : (Builtin.append_ #[62, 9] ty #[v, .string (Xaa t)]).run Tryz.prog w = .ok v' w') (hn : v' = .slice none 0 0 ↔ v = .slice none 0 0 ∧ (Xaa t).size = 0) : v'.ownBlock = v.ownBlock ∨ v'.ownBlock = some w.heap.size := by
 obtain ⟨i0, hi, hz0, hz1, hz2⟩ := info_parts Xlw
 have hsz : (Xaa t).size = t.length := by rw [Lib.size_eq, Xak]
 rcases hown with ⟨h1, ⟨rfl, h2⟩ | ⟨g, cap, cur, rfl, hbg, hg, h3, h4, h5, h6⟩⟩
 · by_cases hm : (Xaa t).size = 0
   · rw [hn.2 ⟨rfl, hm⟩]; exact .inl rfl
   · rw [run_append_nil_string (P := Tryz.prog) w 62 9 ty 5 i0 (.int .u8 0) Tryz.underlying62 Tryz.underlying9 hi hz0 (Xaa t) (by omega) (by omega) (by rw [hz2]; omega)] at hr
     cases hr
     exact .inr rfl
 · rw [Nat.mul_one] at h5 h6 h1
   by_cases hroom : l.length + (Xaa t).size ≤ cap
   · rw [Lib.run_append_room_string (P := Tryz.prog) w 62 9 ty 5 i0 Tryz.underlying62 Tryz.underlying9 hi hz1 g l.length cap cur hg (Xaa t) hroom (by omega)] at hr
     cases hr
     exact .inl rfl
   · have holds : ∀ j u, (byV l)[j]? = some u → w.cell? ((⟨g, 0, none⟩ : Addr).add j) = some u := World.ownsRow.cells (g := g) ⟨by rw [Nat.mul_one]; exact h1, .inr ⟨g, cap, cur, rfl, hbg, hg, h3, h4, by rw [Nat.mul_one]; exact h5, by rw [Nat.mul_one]; exact h6⟩⟩ rfl
     rw [Lib.run_append_grow_string (P := Tryz.prog) w 62 9 ty 5 i0 (.int .u8 0) Tryz.underlying62 Tryz.underlying9 hi hz0 ⟨g, 0, none⟩ l.length cap (byV l) (by rw [hz1, Nat.mul_one]; exact h1) holds (Xaa t) (by omega) (by omega) (by rw [hz2]; exact growslice_fits (by omega) (by omega))] at hr
     cases hr
     exact .inr rfl
theorem Xbk {ops : Array Oper} {rest : List Oper} {o : Oper} {a : Act} {w : World} {Q : Exit → Act → World → Prop} (hgd : o.guard = none) (sl x : Operand)
  (ho : o.op = .call { callee := .builtin .append, args := #[sl, x], argTypes := #[62, 9] })
  (base : Nat) (v : Value) (l : List UInt8) (hs : a.eval sl = v) (hown : Xas w base v l) (t : List UInt8) (hx : a.eval x = .string (Xaa t)) (hb : l.length + t.length ≤ 100000) (hbase : base ≤ w.heap.size)
  (h : ∀ v' w', Xas w' base v' (l ++ t) → w.grownBy w' v.ownBlock → (v'.ownBlock = v.ownBlock ∨ v'.ownBlock = some w.heap.size) → wpList Tryz.prog ops Q rest (a.put o.dst v') w') : wpList Tryz.prog ops Q (o :: rest) a w := by
 obtain ⟨i0, hi, hz0, hz1, hz2⟩ := info_parts Xlw
 have hsz : (Xaa t).size = t.length := by rw [Lib.size_eq, Xak]
 refine wpList_plain hgd fun K hK => ?_
 obtain ⟨v', w', hr, h2, h3, h4⟩ := Lib.run_append_own_string (P := Tryz.prog) w base 62 9 o.type 5 i0 Tryz.underlying62 Tryz.underlying9 hi hz0 hz1 hz2 v l.length (byV l) hown (Xaa t) (by unfold maxLen; omega) (by omega) hbase
 have hl := Xxe hown hb hr h4
 unfold Oper.wp execOp
 simp only [ho, resolve, invoke, builtin, Sem.run_bind, Sem.run_pure, Result.andThen_ok, List.map_toArray, List.map_cons, List.map_nil, hs, hx, hr]
 refine hK _ _ (h v' w' ?_ h3 hl)
 unfold Xas
 rw [List.length_append, Xol]
 rw [hsz] at h2
 exact h2
theorem Xdi {ops : Array Oper} {rest : List Oper} {o : Oper} {a : Act} {w : World} {Q : Exit → Act → World → Prop} (hgd : o.guard = none) (sl x : Operand)
  (ho : o.op = .call { callee := .builtin .append, args := #[sl, x], argTypes := #[62, 62] })
  (base : Nat) (v : Value) (l : List UInt8) (hs : a.eval sl = v) (hown : Xas w base v l) (g c : Nat) (hx : a.eval x = .slice (some ⟨g, 0, none⟩) 1 c) (hg : w.cell? ⟨g, 0, none⟩ = some (.int .u8 32)) (hb : l.length ≤ 100000) (hbase : base ≤ w.heap.size)
  (h : ∀ v' w', Xas w' base v' (l ++ [32]) → w.grownBy w' v.ownBlock → (v'.ownBlock = v.ownBlock ∨ v'.ownBlock = some w.heap.size) → wpList Tryz.prog ops Q rest (a.put o.dst v') w') : wpList Tryz.prog ops Q (o :: rest) a w := by
 obtain ⟨i0, hi, hz0, hz1, hz2⟩ := info_parts Xlw
 refine wpList_append_lies _ hgd sl x 62 ho base 5 i0 (.int .u8 0) 1 1 Tryz.underlying62 hi hz0 hz1 hz2 rfl (by decide) v l.length (byV l) hs hown ⟨g, 0, none⟩ 1 c [.int .u8 32] hx rfl (fun j u hu => ?_) (by simp [Value.oneCell']) (by omega) (by unfold maxLen; omega) (by omega) hbase w.heap.size rfl fun g' cap w' hown' hgr hat _ => h _ w' ?_ hgr ?_
 · match j, hu with
   | 0, hu =>
     have e : Value.int .u8 32 = u := by simpa using hu
     rw [Xco, ← e]; exact hg
   | j + 1, hu => simp at hu
 · unfold Xas
   rw [List.length_append, Xol]
   exact hown'
 · rcases hat with h1 | h1
   · exact .inl h1.symm
   · exact .inr (by rw [h1]; rfl)
structure Chg (P : Nat → Prop) (w w' : World) : Prop where
 os : w'.os = w.os
 tape : w'.tape = w.tape
 output : w'.output = w.output
 size : w.heap.size ≤ w'.heap.size
 block : ∀ k, k < w.heap.size → ¬ P k → w'.heap[k]? = w.heap[k]?
theorem Chg.refl (P : Nat → Prop) (w : World) : Chg P w w := ⟨rfl, rfl, rfl, Nat.le_refl _, fun _ _ _ => rfl⟩
theorem Chg.trans {P P' : Nat → Prop} {a b c : World} (h : Chg P a b) (k : Chg P' b c) (hp : ∀ x, x < a.heap.size → P' x → P x) : Chg P a c :=
 ⟨k.os.trans h.os, k.tape.trans h.tape, k.output.trans h.output, Nat.le_trans h.size k.size, fun i hi hn => (k.block i (Nat.lt_of_lt_of_le hi h.size) (fun e => hn (hp i hi e))).trans (h.block i hi hn)⟩
theorem Chg.of_below {P : Nat → Prop} {w w' : World} (h : Below w.heap.size w w') : Chg P w w' := ⟨h.os, h.tape, h.output, h.size, fun k hk _ => h.block k hk⟩
theorem Chg.alloc {P : Nat → Prop} {a w : World} (h : Chg P a w) (o : Obj) : Chg P a (w.alloc o) :=
 h.trans (P' := fun _ => False) ⟨rfl, rfl, rfl, by simp, fun k hk _ => Below.heap_alloc _ _ _ hk⟩ (fun _ _ e => e.elim)
theorem Chg.setCell {P : Nat → Prop} {a w : World} (h : Chg P a w) (p : Addr) (u : Value) (hp : p.block < a.heap.size → P p.block) : Chg P a (w.setCell p u) :=
 h.trans (P' := fun x => x = p.block) ⟨rfl, rfl, rfl, by simp [World.setCell], fun k hk hn => Below.heap_setCell _ _ _ _ hn⟩ (fun x hx e => by rw [e]; exact hp (by rw [← e]; exact hx))
theorem Chg.grown {P : Nat → Prop} {a w w' : World} {row : Option Nat} (h : Chg P a w) (hg : w.grownBy w' row) (hr : ∀ k, k < a.heap.size → row = some k → P k) : Chg P a w' :=
 h.trans (P' := fun x => row = some x) ⟨hg.os, hg.tape, hg.output, hg.size, fun k hk hn => hg.block k hk (fun e => hn e.symm)⟩ hr
theorem Chg.below {P : Nat → Prop} {w w' : World} {B : Nat} (h : Chg P w w') (hB : B ≤ w.heap.size) (hp : ∀ x, P x → B ≤ x) : Below B w w' :=
 ⟨h.os, h.tape, h.output, h.size, fun k hk => h.block k (by omega) (fun e => by have := hp k e; omega)⟩
theorem Chg.cell {P : Nat → Prop} {w w' : World} (h : Chg P w w') {p : Addr} {v : Value} (hc : w.cell? p = some v) (hn : ¬ P p.block) : w'.cell? p = some v :=
 (World.cell?_of_block (w := w) (h.block p.block (Xcx hc) hn)).trans hc
theorem Chg.drew {P : Nat → Prop} {a w : World} (h : Chg P a w) : Chg P a w.drew := ⟨h.os, h.tape, h.output, h.size, h.block⟩
structure Xap (w : World) (Bc Ba base : Nat) (v : Value) (T : List (List UInt8)) : Prop where
 cnt : w.heap[Bc]? = some (.cells #[.int .i64 T.length] 3 (0, 0))
 buf : w.heap[Ba]? = some (.cells #[v] 62 (0, 0))
 own : Xas w base v (Xbj T)
 fit : fits T
 bc : base ≤ Bc
 ba : base ≤ Ba
def Mine (Bc Ba : Nat) (v : Value) (b : Nat) : Prop := b = Bc ∨ b = Ba ∨ v.ownBlock = some b
theorem Xab {w : World} {g : Nat} {o : Obj} (h : w.heap[g]? = some o) : g < w.heap.size := by
 rcases Nat.lt_or_ge g w.heap.size with hlt | hge
 · exact hlt
 · rw [Array.getElem?_eq_none hge] at h; cases h
section
variable {w w' w1 w2 : World} {Bc Ba base : Nat} {v v' v1 v2 : Value} {T T' T1 T2 : List (List UInt8)}
theorem Xap.ne (h : Xap w Bc Ba base v T) : Bc ≠ Ba := fun e => by
 have h1 := h.cnt
 rw [e, h.buf] at h1
 simp at h1
theorem Xap.nec (h : Xap w Bc Ba base v T) : v.ownBlock ≠ some Bc := fun e => by
 obtain ⟨_, cur, hg⟩ := h.own.blk e
 rw [h.cnt] at hg
 simp at hg
theorem Xap.nea (h : Xap w Bc Ba base v T) : v.ownBlock ≠ some Ba := fun e => by
 obtain ⟨_, cur, hg⟩ := h.own.blk e
 rw [h.buf] at hg
 simp at hg
theorem Xap.mine (h : Xap w Bc Ba base v T) {b : Nat} (hb : Mine Bc Ba v b) : base ≤ b ∧ b < w.heap.size := by
 rcases hb with rfl | rfl | hb
 · exact ⟨h.bc, Xab h.cnt⟩
 · exact ⟨h.ba, Xab h.buf⟩
 · obtain ⟨h1, cur, hg⟩ := h.own.blk hb
   exact ⟨h1, Xab hg⟩
theorem Xap.keep (h : Xap w Bc Ba base v T) (hk : ∀ b, Mine Bc Ba v b → w'.heap[b]? = w.heap[b]?) : Xap w' Bc Ba base v T :=
 ⟨(hk Bc (.inl rfl)).trans h.cnt, (hk Ba (.inr (.inl rfl))).trans h.buf, h.own.keep fun g hg => hk g (.inr (.inr hg)), h.fit, h.bc, h.ba⟩
theorem Xap.alloc (h : Xap w Bc Ba base v T) (o : Obj) : Xap (w.alloc o) Bc Ba base v T := h.keep fun b hb => Below.heap_alloc _ _ _ (h.mine hb).2
theorem Xap.below (h : Xap w Bc Ba base v T) (hb : Below w.heap.size w w') : Xap w' Bc Ba base v T := h.keep fun b hm => hb.block b (h.mine hm).2
theorem Xap.setCell (h : Xap w Bc Ba base v T) (p : Addr) (u : Value) (hp : ¬ Mine Bc Ba v p.block) : Xap (w.setCell p u) Bc Ba base v T :=
 h.keep fun b hb => Below.heap_setCell _ _ _ _ (fun e => hp (by rw [← e]; exact hb))
theorem Xap.drew (h : Xap w Bc Ba base v T) : Xap w.drew Bc Ba base v T := h.keep fun b hb => rfl
def Went (w : World) (Bc Ba base : Nat) (v : Value) (w' : World) (v' : Value) (T' : List (List UInt8)) : Prop :=
 Xap w' Bc Ba base v' T' ∧ (∀ b, v'.ownBlock = some b → v.ownBlock = some b ∨ w.heap.size ≤ b) ∧ Chg (Mine Bc Ba v) w w'
theorem Went.mine (h : Went w Bc Ba base v w' v' T') {b : Nat} (hb : Mine Bc Ba v' b) (hlt : b < w.heap.size) : Mine Bc Ba v b := by
 rcases hb with rfl | rfl | hb
 · exact .inl rfl
 · exact .inr (.inl rfl)
 · rcases h.2.1 b hb with h1 | h1
   · exact .inr (.inr h1)
   · omega
theorem Went.refl (h : Xap w Bc Ba base v T) : Went w Bc Ba base v w v T := ⟨h, fun b hb => .inl hb, Chg.refl _ _⟩
theorem Went.trans (h : Went w Bc Ba base v w1 v1 T1) (k : Went w1 Bc Ba base v1 w2 v2 T2) : Went w Bc Ba base v w2 v2 T2 := by
 refine ⟨k.1, fun b hb => ?_, h.2.2.trans k.2.2 fun x hx hm => h.mine hm hx⟩
 rcases k.2.1 b hb with h1 | h1
 · exact h.2.1 b h1
 · have := h.2.2.size; exact .inr (by omega)
theorem Went.fell (h : Went w Bc Ba base v w1 v1 T1) (k : Chg (Mine Bc Ba v1) w1 w2) : Chg (Mine Bc Ba v) w w2 := h.2.2.trans k fun x hx hm => h.mine hm hx
theorem Went.alloc (h : Went w Bc Ba base v w1 v1 T1) (o : Obj) : Went w Bc Ba base v (w1.alloc o) v1 T1 := ⟨h.1.alloc o, h.2.1, h.2.2.alloc o⟩
theorem Went.below (h : Went w Bc Ba base v w1 v1 T1) (hb : Below w1.heap.size w1 w2) : Went w Bc Ba base v w2 v1 T1 := ⟨h.1.below hb, h.2.1, h.2.2.trans (Chg.of_below (P := fun _ => False) hb) fun _ _ e => e.elim⟩
theorem Went.setCell (h : Went w Bc Ba base v w1 v1 T1) (p : Addr) (u : Value) (hp : w.heap.size ≤ p.block) (hm : ¬ Mine Bc Ba v1 p.block) : Went w Bc Ba base v (w1.setCell p u) v1 T1 :=
 ⟨h.1.setCell p u hm, h.2.1, h.2.2.setCell p u fun e => by omega⟩
theorem Went.drew (h : Went w Bc Ba base v w1 v1 T1) : Went w Bc Ba base v w1.drew v1 T1 := ⟨h.1.drew, h.2.1, h.2.2.drew⟩
def Xal (w : World) (Bc Ba base : Nat) (v : Value) (R : Ts) (e : Ending) (w' : World) : Prop := match R with
 | some T' => e = .returned (.tuple #[]) ∧ ∃ v', Went w Bc Ba base v w' v' T'
 | none => e = boom ∧ Chg (Mine Bc Ba v) w w'
def Xed (w : World) (P : Nat → Prop) (tv : Value) (ts : List (List UInt8)) : Prop :=
 ∃ A c, tv = .slice A ts.length c ∧ ts.length ≤ c ∧ c ≤ 9223372036854775807 ∧ ∀ (k : Nat) (hk : k < ts.length), ∃ b off, A = some ⟨b, off, none⟩ ∧ ¬ P b ∧ ts[k].length ≤ 40000 ∧ w.cell? ⟨b, off + k, none⟩ = some (.string (Xaa ts[k]))
end
end
end Go.Proofs.YtodociiaobjfgaaGreatDoor
