/- The document's own memories: Load, Of. -/
import Derived.Test.YtnplekfpncjnpaaHba
import Derived.Deep.Cut
set_option linter.unusedVariables false
set_option linter.unusedSimpArgs false
namespace Go.Proofs.Ytnplekfpncjnpaa
open Go.RowKit

theorem four_fin2 {w0 w : World} {z : Nat} {o0 o1 o2 o3 : Value} {t : TypeId} (hrow : w.heap[z]? = some (.cells #[o0, o1, o2, o3] t (0, 0))) (hz : w0.heap.size ≤ z) (hb : Below w0.heap.size w0 w) (u0 u1 u2 u3 : Value) {W : World}
    (hW : (((w.setCell ⟨z, 0, none⟩ u0).setCell ⟨z, 1, none⟩ u1).setCell ⟨z, 2, none⟩ u2).setCell ⟨z, 3, none⟩ u3 = W) :
    Below w0.heap.size w0 W ∧ W.cell? ⟨z, 0, none⟩ = some u0 ∧ W.cell? ⟨z, 1, none⟩ = some u1 ∧ W.cell? ⟨z, 2, none⟩ = some u2 ∧ W.cell? ⟨z, 3, none⟩ = some u3 := by
  rw [four_set hrow] at hW
  subst hW
  have h1 := setRow_heap w z _ #[u0, u1, u2, u3] _ _ hrow
  refine ⟨⟨hb.os, hb.tape, hb.output, by simpa using hb.size, fun b hlt => (setRow_other w z b _ (by omega)).trans (hb.block b hlt)⟩, ?_, ?_, ?_, ?_⟩
  · rw [cell_of_row _ _ 0 _ _ (0, 0) h1]; rfl
  · rw [cell_of_row _ _ 1 _ _ (0, 0) h1]; rfl
  · rw [cell_of_row _ _ 2 _ _ (0, 0) h1]; rfl
  · rw [cell_of_row _ _ 3 _ _ (0, 0) h1]; rfl
theorem two_fin {w0 w : World} {z : Nat} {o0 o1 : Value} {t : TypeId} (hrow : w.heap[z]? = some (.cells #[o0, o1] t (0, 0))) (hz : w0.heap.size ≤ z) (hb : Below w0.heap.size w0 w) (u0 u1 : Value) {W : World}
    (hW : (w.setCell ⟨z, 0, none⟩ u0).setCell ⟨z, 1, none⟩ u1 = W) : Below w0.heap.size w0 W ∧ W.cell? ⟨z, 0, none⟩ = some u0 ∧ W.cell? ⟨z, 1, none⟩ = some u1 := by
  have e : (w.setCell ⟨z, 0, none⟩ u0).setCell ⟨z, 1, none⟩ u1 = w.setRow z #[u0, u1] := by
    have e : ∀ (c : Array Value) (i : Nat) (u : Value), ((w.setRow z c).setCell ⟨z, i, none⟩ u) = w.setRow z (c.setIfInBounds i u) := fun c i u => by
      rw [setCell_eq_setRow (w.setRow z c) z i c _ _ u (setRow_heap w z _ c _ _ hrow), setRow_setRow]
    rw [setCell_eq_setRow w z 0 _ _ _ u0 hrow, e]
    rfl
  rw [e] at hW
  subst hW
  have h1 := setRow_heap w z _ #[u0, u1] _ _ hrow
  refine ⟨⟨hb.os, hb.tape, hb.output, by simpa using hb.size, fun b hlt => (setRow_other w z b _ (by omega)).trans (hb.block b hlt)⟩, ?_, ?_⟩
  · rw [cell_of_row _ _ 0 _ _ (0, 0) h1]; rfl
  · rw [cell_of_row _ _ 1 _ _ (0, 0) h1]; rfl
set_option maxRecDepth 100000 in
set_option maxHeartbeats 2000000 in
theorem rload_any {w : World} {S : Nat → Prop} {u1 u2 : Value} {H : Hp} (X : RefAt w S u1 u2 H) (hS : ∀ b, S b → b < w.heap.size) (hg : GoodH H) (a : Int) (ha : In64 a) :
    Calls Try.prog 15 #[.agg #[u1, u2], .int .i64 a] w fun e w' => e = .returned (LoadV (loadM H a)) ∧ Below w.heap.size w w' := by
  obtain ⟨A, c, B, d, rfl, hc, rfl, hd⟩ := X.form
  obtain ⟨n, hn⟩ : ∃ n, n = H.length := ⟨_, rfl⟩
  have h4 := hg.1
  have HPL := Lib.hid (fun (wx : World) (hb : Below w.heap.size w wx) => rplace_any (X.keep (w' := wx) (fun b hb2 => hb.block b (hS b hb2)) (fun _ h => h)) (fun b hb2 => Nat.lt_of_lt_of_le (hS b hb2) hb.size) hg a ha)
  rw [← hn] at hc hd h4 HPL ⊢
  obtain ⟨W, hW⟩ : ∃ W : World, W = (w.alloc (.cells #[.slice A n c, .slice B n d] 29)).alloc (.cells #[.int .i64 0, .int .i64 0] 40) := ⟨_, rfl⟩
  have hb1 : Below w.heap.size w W := by rw [hW]; exact ((Below.refl _ w).alloc (Nat.le_refl _) _).alloc (by simp) _
  have hs : W.heap.size = w.heap.size + 2 := by rw [hW]; simp
  have r0 : W.heap[w.heap.size]? = some (.cells #[.slice A n c, .slice B n d] 29 (0, 0)) := by rw [hW, heap_alloc_old _ _ (by simp), heap_alloc_new]
  have r1 : W.heap[w.heap.size + 1]? = some (.cells #[.int .i64 0, .int .i64 0] 40 (0, 0)) := by rw [hW]; exact two_new w _ _ _
  have HW := Lib.hid hW
  have HB1 := Lib.hid hb1
  have HWS := Lib.hid hs
  have HR1 := Lib.hid r1
  have z0 := cell_of_row W w.heap.size 0 _ _ (0, 0) r0
  have z1 := cell_of_row W w.heap.size 1 _ _ (0, 0) r0
  have y0 := cell_of_row W (w.heap.size + 1) 0 _ _ (0, 0) r1
  have y1 := cell_of_row W (w.heap.size + 1) 1 _ _ (0, 0) r1
  simp at z0 z1 y0 y1
  have f1 := fun j => frozen_of_row W (w.heap.size + 1) j _ _ r1
  have hzl : w.heap.size < W.heap.size := by omega
  have hyl : w.heap.size + 1 < W.heap.size := by omega
  clear hs r0 r1
  unfold loadM
  cases hp : place H a with
  | none =>
    rw [hp] at HPL
    unfold placeV at HPL
    clear X hS hg ha hp hW hb1 hn h4
    unfold LoadV wagg noWd
    go_enter Try.func15, Try.ntmps15
    go_wp2_with fail
    rw [← HW.out]
    refine (HPL.out W HB1.out).mono ?_
    rintro e w2 ⟨rfl, hb2⟩
    have q0 := (hb2.cell (p := ⟨w.heap.size + 1, 0, none⟩) hyl).trans y0
    have q1 := (hb2.cell (p := ⟨w.heap.size + 1, 1, none⟩) hyl).trans y1
    have g1 : ∀ j, w2.frozen? ⟨w.heap.size + 1, j, none⟩ = false := fun j => (World.frozen?_of_block (hb2.block _ hyl)).trans (f1 j)
    have HB2 := Lib.hid (HB1.out.trans (hb2.mono HB1.out.size))
    have HRX := Lib.hid ((hb2.block _ hyl).trans HR1.out)
    clear hb2 y0 y1 f1 z0 z1
    go_wp2
    generalize hV : (w2.setCell ⟨w.heap.size + 1, 0, none⟩ (.int .i64 0)).setCell ⟨w.heap.size + 1, 1, none⟩ (.int .i64 0) = V
    obtain ⟨g2, g3, g4⟩ := two_fin HRX.out (by omega) HB2.out _ _ hV
    refine bodyPost_ret (v := .tuple #[.agg #[.int .i64 0, .int .i64 0], .bool false]) ?_ rfl ⟨rfl, g2⟩
    simp [results, Try.results15, go_sem, g3, g4]
  | some q =>
    obtain ⟨t, k⟩ := q
    rw [hp] at HPL
    unfold placeV at HPL
    obtain ⟨hk, -, ht, hkl⟩ := place_some hp
    have hx := X
    rw [← hn] at hx
    obtain ⟨b, off, B', d', rfl, hb, k0, hd', hl⟩ := hx.words ht
    obtain ⟨b', off', rfl, hb', k1, k2⟩ := lies_word hl hkl
    have hl64 := (hg.get t).2
    have hbl := hS b hb
    have hbl' := hS b' hb'
    obtain ⟨x, hx⟩ : ∃ x, x = (getM H t).ws[k] := ⟨_, rfl⟩
    have hget : (getM H t).ws[k]?.getD noWd = x := by rw [List.getElem?_eq_getElem hkl, hx]; rfl
    dsimp only
    rw [hget]
    rw [← hx] at k1 k2
    obtain ⟨xv, xs⟩ := x
    dsimp only at k1 k2
    obtain ⟨m, hm⟩ : ∃ m, m = (getM H t).ws.length := ⟨_, rfl⟩
    rw [← hm] at k0 hd' hl64 hkl
    have htn : t < n := by omega
    clear X hS hg ha hp hW hb1 hn h4 hget hx hm hl ht
    unfold LoadV wagg
    dsimp only
    go_enter Try.func15, Try.ntmps15
    go_wp2_with fail
    rw [← HW.out]
    refine (HPL.out W HB1.out).mono ?_
    rintro e w2 ⟨rfl, hb2⟩
    have hbw := HB1.out.trans (hb2.mono HB1.out.size)
    have q0 := (hb2.cell (p := ⟨w.heap.size + 1, 0, none⟩) hyl).trans y0
    have q1 := (hb2.cell (p := ⟨w.heap.size + 1, 1, none⟩) hyl).trans y1
    have x0 := (hb2.cell (p := ⟨w.heap.size, 0, none⟩) hzl).trans z0
    have j0 := (hbw.cell (p := ⟨b, off + t, none⟩) hbl).trans k0
    have j1 := (hbw.cell (p := ⟨b', off' + k * 2, none⟩) hbl').trans k1
    have j2 := (hbw.cell (p := ⟨b', off' + k * 2 + 1, none⟩) hbl').trans k2
    have g1 : ∀ j, w2.frozen? ⟨w.heap.size + 1, j, none⟩ = false := fun j => (World.frozen?_of_block (hb2.block _ hyl)).trans (f1 j)
    have HB2 := Lib.hid hbw
    have HRX := Lib.hid ((hb2.block _ hyl).trans HR1.out)
    clear hb2 y0 y1 f1 z0 z1 hbw k0 k1 k2
    go_wp2
    generalize hV : (w2.setCell ⟨w.heap.size + 1, 0, none⟩ (.int .i64 xv)).setCell ⟨w.heap.size + 1, 1, none⟩ (.int .i64 xs) = V
    obtain ⟨g2, g3, g4⟩ := two_fin HRX.out (by omega) HB2.out _ _ hV
    refine bodyPost_ret (v := .tuple #[.agg #[.int .i64 xv, .int .i64 xs], .bool true]) ?_ rfl ⟨rfl, g2⟩
    simp [results, Try.results15, go_sem, g3, g4]

set_option maxRecDepth 100000 in
set_option maxHeartbeats 2000000 in
theorem rof_any {w : World} {S : Nat → Prop} {u1 u2 : Value} {H : Hp} (X : RefAt w S u1 u2 H) (hS : ∀ b, S b → b < w.heap.size) (hg : GoodH H) (a : Int) (ha : In64 a) :
    Calls Try.prog 17 #[.agg #[u1, u2], .int .i64 a] w fun e w' => e = .returned (OfV (ofM H a)) ∧ Below w.heap.size w w' := by
  obtain ⟨A, c, B, d, rfl, hc, rfl, hd⟩ := X.form
  obtain ⟨n, hn⟩ : ∃ n, n = H.length := ⟨_, rfl⟩
  have h4 := hg.1
  have HPL := Lib.hid (fun (wx : World) (hb : Below w.heap.size w wx) => rplace_any (X.keep (w' := wx) (fun b hb2 => hb.block b (hS b hb2)) (fun _ h => h)) (fun b hb2 => Nat.lt_of_lt_of_le (hS b hb2) hb.size) hg a ha)
  rw [← hn] at hc hd h4 HPL ⊢
  obtain ⟨W, hW⟩ : ∃ W : World, W = (w.alloc (.cells #[.slice A n c, .slice B n d] 29)).alloc (.cells #[.int .i64 0, .int .i64 0, .int .i64 0, .int .i64 0] 45) := ⟨_, rfl⟩
  have hb1 : Below w.heap.size w W := by rw [hW]; exact ((Below.refl _ w).alloc (Nat.le_refl _) _).alloc (by simp) _
  have hs : W.heap.size = w.heap.size + 2 := by rw [hW]; simp
  have r0 : W.heap[w.heap.size]? = some (.cells #[.slice A n c, .slice B n d] 29 (0, 0)) := by rw [hW, heap_alloc_old _ _ (by simp), heap_alloc_new]
  have r1 : W.heap[w.heap.size + 1]? = some (.cells #[.int .i64 0, .int .i64 0, .int .i64 0, .int .i64 0] 45 (0, 0)) := by rw [hW]; exact two_new w _ _ _
  have HW := Lib.hid hW
  have HB1 := Lib.hid hb1
  have HWS := Lib.hid hs
  have HR1 := Lib.hid r1
  have HR0 := Lib.hid r0
  have hzl : w.heap.size < W.heap.size := by omega
  have hyl : w.heap.size + 1 < W.heap.size := by omega
  clear hs r0 r1
  -- what is known of every later world
  have HKQ : Hid (∀ wx, Below W.heap.size W wx → wx.cell? ⟨w.heap.size, 0, none⟩ = some (.slice A n c) ∧ wx.cell? ⟨w.heap.size, 1, none⟩ = some (.slice B n d) ∧ wx.heap[w.heap.size + 1]? = some (.cells #[.int .i64 0, .int .i64 0, .int .i64 0, .int .i64 0] 45 (0, 0)) ∧ w.heap.size + 1 < wx.heap.size) := Lib.hid (fun wx hb => by
    have hr := (hb.block _ hzl).trans HR0.out
    exact ⟨by rw [cell_of_row _ _ 0 _ _ (0, 0) hr]; rfl, by rw [cell_of_row _ _ 1 _ _ (0, 0) hr]; rfl, (hb.block _ hyl).trans HR1.out, Nat.lt_of_lt_of_le hyl hb.size⟩)
  unfold ofM
  cases hp : place H a with
  | none =>
    rw [hp] at HPL
    unfold placeV at HPL
    clear X hS hg ha hp hW hb1 hn h4
    unfold OfV oagg noOb
    go_enter Try.func17, Try.ntmps17
    go_wp2_with fail
    rw [← HW.out]
    refine (HPL.out W HB1.out).mono ?_
    rintro e w2 ⟨rfl, hb2⟩
    obtain ⟨x0, x1, hr1, hs2⟩ := HKQ.out w2 hb2
    have q0 := cell_of_row w2 (w.heap.size + 1) 0 _ _ (0, 0) hr1
    have q1 := cell_of_row w2 (w.heap.size + 1) 1 _ _ (0, 0) hr1
    have q2 := cell_of_row w2 (w.heap.size + 1) 2 _ _ (0, 0) hr1
    have q3 := cell_of_row w2 (w.heap.size + 1) 3 _ _ (0, 0) hr1
    simp at q0 q1 q2 q3
    have f1 := fun j => frozen_of_row w2 (w.heap.size + 1) j _ _ hr1
    have HB2 := Lib.hid (HB1.out.trans (hb2.mono HB1.out.size))
    have HRX := Lib.hid hr1
    clear hb2 hr1
    go_wp2
    go_loop [10] (fun x => x = .int .i64 0) (fun _ => 0)
    case atStart => rfl
    case round =>
      obtain rfl := hrel
      go_wp2
      generalize hV : (((w2.setCell ⟨w.heap.size + 1, 0, none⟩ (.int .i64 0)).setCell ⟨w.heap.size + 1, 1, none⟩ (.int .i64 0)).setCell ⟨w.heap.size + 1, 2, none⟩ (.int .i64 0)).setCell ⟨w.heap.size + 1, 3, none⟩ (.int .i64 0) = V
      obtain ⟨g1, g2, g3, g4, g5⟩ := four_fin2 HRX.out (by omega) HB2.out _ _ _ _ hV
      refine bodyPost_ret (v := .tuple #[.int .i64 0, .agg #[.int .i64 0, .int .i64 0, .int .i64 0, .int .i64 0], .bool false]) ?_ rfl ⟨rfl, g1⟩
      simp [results, Try.results17, go_sem, g2, g3, g4, g5]
  | some q =>
    obtain ⟨t, k⟩ := q
    rw [hp] at HPL
    unfold placeV at HPL
    obtain ⟨hk, -, ht, hkl⟩ := place_some hp
    have hx := X
    rw [← hn] at hx
    obtain ⟨b, off, B', d', rfl, hb, k0, hd', hl⟩ := hx.objects ht
    have hgood := hg.get t
    obtain ⟨i0, hi0, h1, h2, h3⟩ := chained_find hgood.1 k (Nat.zero_le _) hkl
    have hho := holder_at hi0 h1 h3
    have hbl := hS b hb
    have HOB : Hid (∀ j (hj : j < (getM H t).os.length), ∃ b off, B' = some ⟨b, off, none⟩ ∧ b < w.heap.size ∧ w.cell? ⟨b, off + j * 4, none⟩ = some (.int .i64 ((getM H t).os[j].at_ : Nat)) ∧ w.cell? ⟨b, off + j * 4 + 1, none⟩ = some (.int .i64 ((getM H t).os[j].size : Nat)) ∧ w.cell? ⟨b, off + j * 4 + 2, none⟩ = some (.int .i64 (getM H t).os[j].fn) ∧ w.cell? ⟨b, off + j * 4 + 3, none⟩ = some (.int .i64 (getM H t).os[j].op) ∧ (getM H t).os[j].at_ + (getM H t).os[j].size ≤ 64) := Lib.hid (fun j hj => by
      obtain ⟨b, off, e, hb, c0, c1, c2, c3⟩ := lies_object hl hj
      have := (chained_end hgood.1 _ (List.getElem_mem hj)).2.2
      have := hgood.2
      exact ⟨b, off, e, hS b hb, c0, c1, c2, c3, by omega⟩)
    have HLT : Hid (∀ j (hj : j < i0), ((getM H t).os[j]'(by omega)).at_ + ((getM H t).os[j]'(by omega)).size ≤ k) := Lib.hid h1
    have HAT : Hid ((getM H t).os[i0].at_ ≤ k ∧ k < (getM H t).os[i0].at_ + (getM H t).os[i0].size) := Lib.hid ⟨h2, h3⟩
    have hol : (getM H t).os.length ≤ 64 := by have := chained_le hgood.1; have := hgood.2; omega
    dsimp only
    rw [hho]
    obtain ⟨x, hx⟩ : ∃ x, x = (getM H t).os[i0] := ⟨_, rfl⟩
    rw [← hx]
    have HXX := Lib.hid hx
    obtain ⟨m, hm⟩ : ∃ m, m = (getM H t).os.length := ⟨_, rfl⟩
    rw [← hm] at k0 hd' hol
    have him : i0 < m := by omega
    have HM := Lib.hid hm
    have htn : t < n := by omega
    clear X hS hg ha hp hW hb1 hn h4 hx hm hl ht hgood h1 h2 h3 hho hkl
    unfold OfV oagg
    dsimp only
    go_enter Try.func17, Try.ntmps17
    go_wp2_with fail
    rw [← HW.out]
    refine (HPL.out W HB1.out).mono ?_
    rintro e w2 ⟨rfl, hb2⟩
    have HB2 := Lib.hid hb2
    clear hb2
    go_wp2
    go_loopw [10] (fun x wr => ∃ j : Nat, j ≤ i0 ∧ x = .int .i64 (j : Nat) ∧ Hid (Below W.heap.size W wr)) (fun x _ => m - (intOf x).toNat)
    case atStart => exact ⟨0, Nat.zero_le _, rfl, HB2⟩
    case round =>
      obtain ⟨wo, rfl⟩ : ∃ wo : World, wo = wr := ⟨_, rfl⟩
      obtain ⟨j, hj, rfl, HBL⟩ := hrel
      obtain ⟨x0, x1, hr1, hs2⟩ := HKQ.out wo HBL.out
      have hjm : j < m := by omega
      have hjl : j < (getM H t).os.length := by rw [← HM.out]; exact hjm
      obtain ⟨g, off', rfl, hgl, c0, c1, c2, c3, h64⟩ := HOB.out j hjl
      have hbw := HB1.out.trans (HBL.out.mono HB1.out.size)
      have j0 := (hbw.cell (p := ⟨g, off' + j * 4, none⟩) hgl).trans c0
      have j1 := (hbw.cell (p := ⟨g, off' + j * 4 + 1, none⟩) hgl).trans c1
      have j2 := (hbw.cell (p := ⟨g, off' + j * 4 + 2, none⟩) hgl).trans c2
      have j3 := (hbw.cell (p := ⟨g, off' + j * 4 + 3, none⟩) hgl).trans c3
      have l0 := (hbw.cell (p := ⟨b, off + t, none⟩) hbl).trans k0
      have HBW := Lib.hid hbw
      clear c0 c1 c2 c3 hbw
      by_cases hji : j = i0
      · subst hji
        have hat := HAT.out
        rw [← HXX.out] at j0 j1 j2 j3 h64 hat
        obtain ⟨xa, xs, xf, xo⟩ := x
        dsimp only at j0 j1 j2 j3 h64 hat
        have i1 : (xa : Int) ≤ (k : Int) := by omega
        have i2 : (k : Int) < (xa : Int) + (xs : Int) := by omega
        go_upto_region 7 with fail
        have o0 := four_c0 wo (.int .i64 (xa : Nat)) (.int .i64 (xs : Nat)) (.int .i64 xf) (.int .i64 xo) 45
        have o1 := four_c1 wo (.int .i64 (xa : Nat)) (.int .i64 (xs : Nat)) (.int .i64 xf) (.int .i64 xo) 45
        have o2 := four_c2 wo (.int .i64 (xa : Nat)) (.int .i64 (xs : Nat)) (.int .i64 xf) (.int .i64 xo) 45
        have o3 := four_c3 wo (.int .i64 (xa : Nat)) (.int .i64 (xs : Nat)) (.int .i64 xf) (.int .i64 xo) 45
        have hr2 := (heap_alloc_old wo (.cells #[.int .i64 (xa : Nat), .int .i64 (xs : Nat), .int .i64 xf, .int .i64 xo] 45) hs2).trans hr1
        have hb9 := HBW.out.alloc HBW.out.size (.cells #[.int .i64 (xa : Nat), .int .i64 (xs : Nat), .int .i64 xf, .int .i64 xo] 45)
        have hyl9 : wo.heap.size < (wo.alloc (.cells #[.int .i64 (xa : Nat), .int .i64 (xs : Nat), .int .i64 xf, .int .i64 xo] 45)).heap.size := by simp
        generalize wo.alloc (.cells #[.int .i64 (xa : Nat), .int .i64 (xs : Nat), .int .i64 xf, .int .i64 xo] 45) = Y at o0 o1 o2 o3 hr2 hb9 hyl9 ⊢
        obtain ⟨y, hy⟩ : ∃ y, y = wo.heap.size := ⟨_, rfl⟩
        rw [← hy] at o0 o1 o2 o3 hyl9 hs2 ⊢
        have q0 := cell_of_row Y (w.heap.size + 1) 0 _ _ (0, 0) hr2
        have q1 := cell_of_row Y (w.heap.size + 1) 1 _ _ (0, 0) hr2
        have q2 := cell_of_row Y (w.heap.size + 1) 2 _ _ (0, 0) hr2
        have q3 := cell_of_row Y (w.heap.size + 1) 3 _ _ (0, 0) hr2
        simp at q0 q1 q2 q3
        have f1 := fun j => frozen_of_row Y (w.heap.size + 1) j _ _ hr2
        have hsY : w.heap.size + 1 < Y.heap.size := by omega
        have HR2 := Lib.hid hr2
        have HB9 := Lib.hid hb9
        clear hr2 hb9 hr1 j0 j1 j2 j3 l0 x0 x1 hy HBW HBL HB2
        go_region
        generalize hV : (((Y.setCell ⟨w.heap.size + 1, 0, none⟩ (.int .i64 (xa : Nat))).setCell ⟨w.heap.size + 1, 1, none⟩ (.int .i64 (xs : Nat))).setCell ⟨w.heap.size + 1, 2, none⟩ (.int .i64 xf)).setCell ⟨w.heap.size + 1, 3, none⟩ (.int .i64 xo) = V
        obtain ⟨g1, g2, g3, g4, g5⟩ := four_fin2 HR2.out (by omega) HB9.out _ _ _ _ hV
        clear hV q0 q1 q2 q3 f1 o0 o1 o2 o3
        have HG := Lib.hid g1
        clear g1
        go_wp2
        refine bodyPost_ret (v := .tuple #[.int .i64 (t : Nat), .agg #[.int .i64 (xa : Nat), .int .i64 (xs : Nat), .int .i64 xf, .int .i64 xo], .bool true]) ?_ rfl ⟨rfl, HG.out.drew⟩
        simp [results, Try.results17, go_sem, g2, g3, g4, g5]
      · have hlt := HLT.out j (by omega)
        obtain ⟨y, hy⟩ : ∃ y, y = (getM H t).os[j] := ⟨_, rfl⟩
        rw [← hy] at j0 j1 j2 j3 h64 hlt
        obtain ⟨xa, xs, xf, xo⟩ := y
        dsimp only at j0 j1 j2 j3 h64 hlt
        have i1 : (xa : Int) ≤ (k : Int) := by omega
        have i2 : ¬ (k : Int) < (xa : Int) + (xs : Int) := by omega
        have HB9 := Lib.hid (HBL.out.alloc HBL.out.size (.cells #[.int .i64 (xa : Nat), .int .i64 (xs : Nat), .int .i64 xf, .int .i64 xo] 45))
        clear hy hlt
        go_wp2
        go_roundw
        case rel => exact ⟨j + 1, by omega, by go_num, HB9⟩
        case measure => simp [intOf]; omega

end Go.Proofs.Ytnplekfpncjnpaa
