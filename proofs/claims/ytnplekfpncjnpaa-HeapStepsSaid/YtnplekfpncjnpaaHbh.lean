/- The document's own memories: Store. -/
import Derived.Test.YtnplekfpncjnpaaHbg
import Derived.Deep.CutRange
set_option linter.unusedVariables false
set_option linter.unusedSimpArgs false
namespace Go.Proofs.Ytnplekfpncjnpaa
open Go.RowKit

theorem two_row {w : World} {z : Nat} {o0 o1 : Value} {t : TypeId} (hrow : w.heap[z]? = some (.cells #[o0, o1] t (0, 0))) (u0 u1 : Value) {W : World} (hW : (w.setCell ⟨z, 0, none⟩ u0).setCell ⟨z, 1, none⟩ u1 = W) :
    W.heap[z]? = some (.cells #[u0, u1] t (0, 0)) ∧ (∀ b, b ≠ z → W.heap[b]? = w.heap[b]?) ∧ Below z w W ∧ W.heap.size = w.heap.size := by
  have e : (w.setCell ⟨z, 0, none⟩ u0).setCell ⟨z, 1, none⟩ u1 = w.setRow z #[u0, u1] := by
    have e : ∀ (c : Array Value) (i : Nat) (u : Value), ((w.setRow z c).setCell ⟨z, i, none⟩ u) = w.setRow z (c.setIfInBounds i u) := fun c i u => by
      rw [setCell_eq_setRow (w.setRow z c) z i c _ _ u (setRow_heap w z _ c _ _ hrow), setRow_setRow]
    rw [setCell_eq_setRow w z 0 _ _ _ u0 hrow, e]
    rfl
  rw [e] at hW
  subst hW
  exact ⟨setRow_heap w z _ #[u0, u1] _ _ hrow, fun b hb => setRow_other w z b _ (fun e => hb (by omega)), ⟨rfl, rfl, rfl, by simp, fun b hb => setRow_other w z b _ (by omega)⟩, by simp⟩
theorem ROwn.keep {w w' : World} {base : Nat} {H : Hp} {v1 v2 : Value} {X1 X2 : List Value} (h : ROwn w base H v1 v2 X1 X2) (hk : ∀ b, base ≤ b → w'.heap[b]? = w.heap[b]?) : ROwn w' base H v1 v2 X1 X2 :=
  ⟨h.a.keep (fun b hb => hk b (h.a.lt hb).1), h.b.keep (fun b hb => hk b (h.b.lt hb).1), h.ap⟩
/-- what a change of the document's memories leaves -/
def RStore (w : World) (S : Nat → Prop) (r : Hp × Bool) (e : Ending) (w' : World) : Prop := ∃ u1 u2, e = .returned (.tuple #[.agg #[u1, u2], .bool r.2]) ∧ RefAt w' (fun b => S b ∨ (w.heap.size ≤ b ∧ b < w'.heap.size)) u1 u2 r.1 ∧ Below w.heap.size w w'
set_option maxRecDepth 100000 in
set_option maxHeartbeats 2000000 in
theorem rstore_any {w : World} {S : Nat → Prop} {u1 u2 : Value} {H : Hp} (X : RefAt w S u1 u2 H) (hS : ∀ b, S b → b < w.heap.size) (hg : GoodH H) (a : Int) (ha : In64 a) (x : Wd) :
    Calls Try.prog 12 #[.agg #[u1, u2], .int .i64 a, wagg x] w (RStore w S (storeM H a x)) := by
  obtain ⟨A, c, B, d, rfl, hc, rfl, hd⟩ := X.form
  obtain ⟨n, hn⟩ : ∃ n, n = H.length := ⟨_, rfl⟩
  have h4 := hg.1
  have HXK := Lib.hid (fun (wx : World) (hb : Below w.heap.size w wx) => X.keep (w' := wx) (fun b hb2 => hb.block b (hS b hb2)) (fun _ h => h))
  have HPL := Lib.hid (fun (wx : World) (hb : Below w.heap.size w wx) => rplace_any (HXK.out wx hb) (fun b hb2 => Nat.lt_of_lt_of_le (hS b hb2) hb.size) hg a ha)
  have HCP := Lib.hid (fun (wx : World) (hb : Below w.heap.size w wx) => rcopied_any (HXK.out wx hb) (fun b hb2 => Nat.lt_of_lt_of_le (hS b hb2) hb.size) hg)
  rw [← hn] at hc hd h4 HPL HXK HCP ⊢
  obtain ⟨xv, xs⟩ := x
  obtain ⟨W, hW⟩ : ∃ W : World, W = ((w.alloc (.cells #[.slice A n c, .slice B n d] 29)).alloc (.cells #[.int .i64 xv, .int .i64 xs] 40)).alloc (.cells #[.slice none 0 0, .slice none 0 0] 29) := ⟨_, rfl⟩
  have hb1 : Below w.heap.size w W := by rw [hW]; exact (((Below.refl _ w).alloc (Nat.le_refl _) _).alloc (by simp) _).alloc (by simp; omega) _
  have hs : W.heap.size = w.heap.size + 3 := by rw [hW]; simp
  have r0 : W.heap[w.heap.size]? = some (.cells #[.slice A n c, .slice B n d] 29 (0, 0)) := by rw [hW, heap_alloc_old _ _ (by simp; omega), heap_alloc_old _ _ (by simp), heap_alloc_new]
  have r1 : W.heap[w.heap.size + 1]? = some (.cells #[.int .i64 xv, .int .i64 xs] 40 (0, 0)) := by rw [hW, heap_alloc_old _ _ (by simp)]; exact two_new w _ _ _
  have r2 : W.heap[w.heap.size + 2]? = some (.cells #[.slice none 0 0, .slice none 0 0] 29 (0, 0)) := by
    rw [hW]
    have := two_new (w.alloc (.cells #[.slice A n c, .slice B n d] 29)) (.cells #[.int .i64 xv, .int .i64 xs] 40) #[.slice none 0 0, .slice none 0 0] 29
    simpa using this
  rw [show w.heap.size + 2 = w.heap.size + 1 + 1 from rfl] at r2
  obtain ⟨q, hq⟩ : ∃ q, q = w.heap.size := ⟨_, rfl⟩
  rw [← hq] at hs r0 r1 r2
  have HW := Lib.hid hW
  have HB1 := Lib.hid hb1
  have HWS := Lib.hid hs
  have HR0 := Lib.hid r0
  have HR1 := Lib.hid r1
  have HR2 := Lib.hid r2
  have HQ := Lib.hid hq
  have HKQ : Hid (∀ wx, Below W.heap.size W wx → wx.heap[q]? = some (.cells #[.slice A n c, .slice B n d] 29 (0, 0)) ∧ wx.heap[q + 1]? = some (.cells #[.int .i64 xv, .int .i64 xs] 40 (0, 0)) ∧ wx.heap[q + 1 + 1]? = some (.cells #[.slice none 0 0, .slice none 0 0] 29 (0, 0)) ∧ q + 1 + 1 < wx.heap.size) := Lib.hid (fun wx hb => ⟨(hb.block _ (by omega)).trans HR0.out, (hb.block _ (by omega)).trans HR1.out, (hb.block _ (by omega)).trans HR2.out, by have := hb.size; omega⟩)
  clear hs r0 r1 r2
  unfold storeM wagg
  cases hp : place H a with
  | none =>
    rw [hp] at HPL
    unfold placeV at HPL
    have HXX := Lib.hid (fun (wx : World) (hb : Below w.heap.size w wx) => (HXK.out wx hb).keep (w' := wx) (S' := fun b => S b ∨ (w.heap.size ≤ b ∧ b < wx.heap.size)) (fun _ _ => rfl) (fun _ h => .inl h))
    clear X hS hg ha hp hW hb1 hn h4
    unfold RStore
    dsimp only
    go_enter Try.func12, Try.ntmps12
    go_wp2_with fail
    rw [← HW.out, ← hq]
    clear hq
    refine (HPL.out W HB1.out).mono ?_
    rintro e w2 ⟨rfl, hb2⟩
    obtain ⟨k0, k1, k2, hlt⟩ := HKQ.out w2 hb2
    have x0 := cell_of_row w2 q 0 _ _ (0, 0) k0
    have x1 := cell_of_row w2 q 1 _ _ (0, 0) k0
    have y0 := cell_of_row w2 (q + 1 + 1) 0 _ _ (0, 0) k2
    have y1 := cell_of_row w2 (q + 1 + 1) 1 _ _ (0, 0) k2
    simp at x0 x1 y0 y1
    have f2 := fun j => frozen_of_row w2 (q + 1 + 1) j _ _ k2
    have HRX := Lib.hid k2
    have HB2 := Lib.hid (HB1.out.trans (hb2.mono HB1.out.size))
    clear hb2 k0 k1 k2
    go_wp2
    generalize hV : (w2.setCell ⟨q + 1 + 1, 0, none⟩ (.slice A n c)).setCell ⟨q + 1 + 1, 1, none⟩ (.slice B n d) = V
    obtain ⟨g2, g3, g4⟩ := two_fin HRX.out (by rw [HQ.out]; omega) HB2.out _ _ hV
    refine bodyPost_ret (v := .tuple #[.agg #[.slice A n c, .slice B n d], .bool false]) ?_ rfl ⟨_, _, rfl, HXX.out V g2, g2⟩
    simp [results, Try.results12, go_sem, g3, g4]
  | some p =>
    obtain ⟨t, k⟩ := p
    rw [hp] at HPL
    unfold placeV at HPL
    obtain ⟨hk64, -, ht, hkl⟩ := place_some hp
    have HHT := Lib.hid ht
    have HKL := Lib.hid hkl
    have HGS := Lib.hid (good_store hg a ⟨xv, xs⟩)
    unfold storeM at HGS
    rw [hp] at HGS
    have hl64 := (hg.get t).2
    obtain ⟨m, hm⟩ : ∃ m, m = (getM H t).ws.length := ⟨_, rfl⟩
    rw [← hn] at ht
    rw [← hm] at hkl hl64
    have HM := Lib.hid hm
    have HN := Lib.hid hn
    clear X hS hg ha hp hW hb1 hn hm
    unfold RStore
    dsimp only at HGS ⊢
    go_enter Try.func12, Try.ntmps12
    go_wp2_with fail
    rw [← HW.out, ← hq]
    clear hq
    refine (HPL.out W HB1.out).mono ?_
    rintro e w2 ⟨rfl, hb2⟩
    obtain ⟨k0, k1, k2, hlt⟩ := HKQ.out w2 hb2
    have x0 := cell_of_row w2 q 0 _ _ (0, 0) k0
    have x1 := cell_of_row w2 q 1 _ _ (0, 0) k0
    simp at x0 x1
    have HL2 := Lib.hid hb2
    have HB2 := Lib.hid (HB1.out.trans (hb2.mono HB1.out.size))
    clear hb2 k0 k1 k2
    go_wp2_with fail
    refine (HCP.out w2 HB2.out).mono ?_
    rintro e w3 ⟨v1, v2, X1, X2, rfl, hro, hb3⟩
    have hl3 := HL2.out.trans (hb3.mono HL2.out.size)
    obtain ⟨k0, k1, k2, hlt3⟩ := HKQ.out w3 hl3
    obtain ⟨A1, c1, e1⟩ := row_form hro.a.o
    obtain ⟨B1, d1, e2⟩ := row_form hro.b.o
    rw [List.length_map, ← HN.out] at e1 e2
    subst e1
    subst e2
    clear x0 x1
    have x0 := cell_of_row w3 q 0 _ _ (0, 0) k0
    have x1 := cell_of_row w3 q 1 _ _ (0, 0) k0
    simp at x0 x1
    have f0 := fun j => frozen_of_row w3 q j _ _ k0
    have HK0 := Lib.hid k0
    have HK1 := Lib.hid k1
    have HK2 := Lib.hid k2
    have HRO := Lib.hid hro
    have HB3 := Lib.hid hb3
    have hq2 : q + 1 + 1 < w2.heap.size := hlt
    clear k0 k1 k2 hro hb3 hl3
    go_upto_region 5 with fail
    generalize hV : (w3.setCell ⟨q, 0, none⟩ (.slice A1 n c1)).setCell ⟨q, 1, none⟩ (.slice B1 n d1) = V
    obtain ⟨z0, zo, zb, zs⟩ := two_row HK0.out _ _ hV
    have z1 := (zo (q + 1) (by omega)).trans HK1.out
    have z2 := (zo (q + 1 + 1) (by omega)).trans HK2.out
    have hroV := HRO.out.keep (w' := V) (fun b hb => zo b (by omega))
    obtain ⟨g, c', g3, d3, e, hg, hg3, kc, hd3, ⟨y0, ky0⟩, ⟨y1, ky1⟩, kf, hl3, hro'⟩ := hroV.stored HHT.out HKL.out ⟨xv, xs⟩
    simp only [Value.slice.injEq] at e
    obtain ⟨rfl, -, rfl⟩ := e
    rw [← HM.out] at kc hd3
    have hVs : Below w.heap.size w V := HB2.out.trans ((HB3.out.mono HB2.out.size).trans (zb.mono (by rw [HQ.out]; omega)))
    have o0 := cell_of_row V q 0 _ _ (0, 0) z0
    have o1 := cell_of_row V q 1 _ _ (0, 0) z0
    have p0 := cell_of_row V (q + 1) 0 _ _ (0, 0) z1
    have p1 := cell_of_row V (q + 1) 1 _ _ (0, 0) z1
    simp at o0 o1 p0 p1
    have hqV : q + 1 + 1 < V.heap.size := by omega
    have HEND := Lib.hid (fun (W5 : World) (h5 : ((V.setCell ⟨g3, k * 2, none⟩ (.int .i64 xv)).setCell ⟨g3, k * 2 + 1, none⟩ (.int .i64 xs)).drew = W5) => (by
      have hset : ∀ b, b ≠ g3 → W5.heap[b]? = V.heap[b]? := fun b hb => by
        subst h5
        exact (Below.heap_setCell _ _ _ b hb).trans (Below.heap_setCell _ _ _ b hb)
      have hs5 : W5.heap.size = V.heap.size := by subst h5; simp
      exact ⟨(hset _ (by omega)).trans z0, (hset _ (by omega)).trans z2, hs5, hro'.keep (w' := W5) (fun b _ => by subst h5; rfl), hVs.trans ⟨by subst h5; rfl, by subst h5; rfl, by subst h5; rfl, by omega, fun b hb => hset b (by have := HB2.out.size; omega)⟩⟩ : W5.heap[q]? = some (.cells #[.slice (some ⟨g, 0, none⟩) n c1, .slice B1 n d1] 29 (0, 0)) ∧ W5.heap[q + 1 + 1]? = some (.cells #[.slice none 0 0, .slice none 0 0] 29 (0, 0)) ∧ W5.heap.size = V.heap.size ∧ ROwn W5 w2.heap.size (H.set t ⟨(getM H t).ws.set k ⟨xv, xs⟩, (getM H t).os⟩) (.slice (some ⟨g, 0, none⟩) n c1) (.slice B1 n d1) X1 X2 ∧ Below w.heap.size w W5))
    clear hV z0 zo zb zs z1 z2 hroV hro' hVs x0 x1 f0
    go_region
    generalize h5 : ((V.setCell ⟨g3, k * 2, none⟩ (.int .i64 xv)).setCell ⟨g3, k * 2 + 1, none⟩ (.int .i64 xs)).drew = W5
    obtain ⟨s0, s2, hs5, hr5, hb5⟩ := HEND.out W5 h5
    clear h5 o0 o1 p0 p1 ky0 ky1 kc
    have x0 := cell_of_row W5 q 0 _ _ (0, 0) s0
    have x1 := cell_of_row W5 q 1 _ _ (0, 0) s0
    have y0 := cell_of_row W5 (q + 1 + 1) 0 _ _ (0, 0) s2
    have y1 := cell_of_row W5 (q + 1 + 1) 1 _ _ (0, 0) s2
    simp at x0 x1 y0 y1
    have f2 := fun j => frozen_of_row W5 (q + 1 + 1) j _ _ s2
    have HS2 := Lib.hid s2
    have HR5 := Lib.hid hr5
    have HB5 := Lib.hid hb5
    have hq5 : q + 1 + 1 < W5.heap.size := by omega
    clear s0 s2 hs5 hr5 hb5
    go_wp2
    generalize hV : (W5.setCell ⟨q + 1 + 1, 0, none⟩ (.slice (some ⟨g, 0, none⟩) n c1)).setCell ⟨q + 1 + 1, 1, none⟩ (.slice B1 n d1) = V6
    obtain ⟨g2, g3', g4⟩ := two_fin HS2.out (by rw [HQ.out]; omega) HB5.out _ _ hV
    obtain ⟨-, zo, -, -⟩ := two_row HS2.out _ _ hV
    have hr6 := (HR5.out.keep (w' := V6) (fun b hb => zo b (by omega))).ref HGS.out
    refine bodyPost_ret (v := .tuple #[.agg #[.slice (some ⟨g, 0, none⟩) n c1, .slice B1 n d1], .bool true]) ?_ rfl ⟨_, _, rfl, hr6.keep (fun _ _ => rfl) (fun b hb => .inr ⟨Nat.le_trans HB2.out.size hb.1, hb.2⟩), g2⟩
    simp [results, Try.results12, go_sem, g3', g4]

end Go.Proofs.Ytnplekfpncjnpaa
