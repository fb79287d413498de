/- The document's own queue: Put, Get. -/
import Derived.Test.YtadmacplpmahaaaIak
import Derived.Deep.Cut
set_option linter.unusedVariables false
set_option linter.unusedSimpArgs false
namespace Go.Proofs.Ytadmacplpmahaaa
open Go.RowKit

def RPut (w : World) (base cap : Nat) (xs : List Int) (x : Int) (e : Ending) (w' : World) : Prop :=
  ∃ u', e = .returned (.tuple #[.agg #[.int .i64 (cap : Nat), u'], .bool (putM cap xs x).2]) ∧ OwnN w' base u' (putM cap xs x).1 ∧ Below w.heap.size w w'
theorem OwnN.below {w w' : World} {base : Nat} {v : Value} {xs : List Int} (h : OwnN w base v xs) (hb : Below w.heap.size w w') : OwnN w' base v xs := h.keep fun b hb2 => hb.block b (h.lt hb2).2
theorem OwnN.mono {w : World} {base base' : Nat} {v : Value} {xs : List Int} (h : OwnN w base v xs) (hb : base' ≤ base) : OwnN w base' v xs :=
  ⟨h.1, h.2.imp id fun ⟨g, cap, cur, h1, h2, h3⟩ => ⟨g, cap, cur, h1, Nat.le_trans hb h2, h3⟩⟩

theorem one_set {w0 w : World} {z : Nat} {o0 o1 : Value} {t : TypeId} (hrow : w.heap[z]? = some (.cells #[o0, o1] t (0, 0))) (hz : w0.heap.size ≤ z) (hb : Below w0.heap.size w0 w) (u1 : Value) {W : World}
    (hW : w.setCell ⟨z, 1, none⟩ u1 = W) : Below w0.heap.size w0 W ∧ W.heap[z]? = some (.cells #[o0, u1] t (0, 0)) ∧ (∀ b, b ≠ z → W.heap[b]? = w.heap[b]?) := by
  rw [setCell_eq_setRow w z 1 _ _ _ u1 hrow] at hW
  subst hW
  have h1 := setRow_heap w z _ #[o0, u1] _ _ hrow
  exact ⟨⟨hb.os, hb.tape, hb.output, by simpa using hb.size, fun b hlt => (setRow_other w z b _ (by omega)).trans (hb.block b hlt)⟩, h1, fun b hb => setRow_other w z b _ hb⟩

set_option maxRecDepth 100000 in
set_option maxHeartbeats 2000000 in
theorem rput_any {w : World} {base cap : Nat} {u : Value} {xs : List Int} (hO : OwnN w base u xs) (hfit : xs.length ≤ cap) (h4 : cap ≤ 4) (hb : base ≤ w.heap.size) (x : Int) :
    Calls Try.prog 9 #[.agg #[.int .i64 (cap : Nat), u], .int .i64 x] w (RPut w base cap xs x) := by
  obtain ⟨A, c, hu⟩ := hO.form
  subst hu
  obtain ⟨n, hn⟩ : ∃ n, n = xs.length := ⟨_, rfl⟩
  rw [← hn] at hO hfit ⊢
  obtain ⟨W, hW⟩ : ∃ W : World, W = (w.alloc (.cells #[.int .i64 (cap : Nat), .slice A n c] 27)).alloc (.cells #[.int .i64 0, .slice none 0 0] 27) := ⟨_, rfl⟩
  have hb1 : Below w.heap.size w W := by rw [hW]; exact ((Below.refl _ w).alloc (Nat.le_refl _) _).alloc (by simp) _
  have hs : W.heap.size = w.heap.size + 2 := by rw [hW]; simp
  have r0 : W.heap[w.heap.size]? = some (.cells #[.int .i64 (cap : Nat), .slice A n c] 27 (0, 0)) := by rw [hW, heap_alloc_old _ _ (by simp), heap_alloc_new]
  have r1 : W.heap[w.heap.size + 1]? = some (.cells #[.int .i64 0, .slice none 0 0] 27 (0, 0)) := by rw [hW]; exact two_new w _ _ _
  have HW := Lib.hid hW
  have HB1 := Lib.hid hb1
  have HWS := Lib.hid hs
  have HR0 := Lib.hid r0
  have HR1 := Lib.hid r1
  have HOW := Lib.hid (hO.below hb1)
  have HN := Lib.hid hn
  have HOO := Lib.hid hO
  have HBB := Lib.hid hb
  have z0 := cell_of_row W w.heap.size 0 _ _ (0, 0) r0
  have z1 := cell_of_row W w.heap.size 1 _ _ (0, 0) r0
  have y0 := cell_of_row W (w.heap.size + 1) 0 _ _ (0, 0) r1
  have y1 := cell_of_row W (w.heap.size + 1) 1 _ _ (0, 0) r1
  simp at z0 z1 y0 y1
  have f0 := fun j => frozen_of_row W w.heap.size j _ _ r0
  have f1 := fun j => frozen_of_row W (w.heap.size + 1) j _ _ r1
  have hzl : w.heap.size < W.heap.size := by omega
  have hyl : w.heap.size + 1 < W.heap.size := by omega
  unfold RPut putM
  by_cases hlt : n < cap
  · rw [if_pos (by rw [← hn]; exact hlt)]
    have HCP := Lib.hid (rcopy_any (HOW.out.lie) (by omega) (fun A' n' c' e => by
      cases e
      exact (HOW.out.lt (b := A'.block) rfl).2))
    clear hs hW hb1 hO hn r0 r1 hb
    go_enter Try.func9, Try.ntmps9
    go_wp2_with fail
    rw [← HW.out]
    refine HCP.out.mono ?_
    rintro e w2 ⟨v2, rfl, o2, b2⟩
    have HO2 := Lib.hid o2
    have HSZ : Hid (W.heap.size ≤ w2.heap.size) := Lib.hid b2.size
    have HL2 : Hid (xs.length ≤ 1000000) := Lib.hid (by rw [← HN.out]; omega)
    have HK2 : Hid (∀ w4, Chg v2.ownBlock W.heap.size w2 w4 → ∀ b, b < W.heap.size → w4.heap[b]? = W.heap[b]?) := Lib.hid (fun w4 c4 b hb => (c4.blk b (Nat.lt_of_lt_of_le hb b2.size) (fun e => by have := (HO2.out.lt e).1; omega)).trans (b2.block b hb))
    have HB2 := Lib.hid b2
    clear o2 b2 z0 z1 y0 y1 f0 f1 HCP
    have HL4 : Hid ((xs ++ [x]).length = n + 1) := Lib.hid (by simp [HN.out])
    go_upto_region 4 with (at_builtin; go_loud (refine wpList_app rfl _ _ rfl W.heap.size v2 xs rfl (w := w2) x rfl HO2.out HL2.out 1 rfl HSZ.out ?_; go_loud (intro v4 w4 o4 c4 n4; obtain ⟨A4, c5, rfl⟩ := o4.form_n HL4.out; have q0 := (HK2.out w4 c4 _ hzl).trans HR0.out; have q1 := (HK2.out w4 c4 _ hyl).trans HR1.out; have HQ0 := Lib.hid q0; have HQ1 := Lib.hid q1; have HO4 := Lib.hid o4; have HC4 := Lib.hid c4; have z1 := cell_of_row w4 w.heap.size 1 _ _ (0, 0) q0; simp at z1; have f0 := fun j => frozen_of_row w4 w.heap.size j _ _ q0; have hzl4 : w.heap.size < w4.heap.size := heap_lt q0; clear q0 q1 o4 c4 n4)))
    generalize hV : w4.setCell ⟨w.heap.size, 1, none⟩ (.slice A4 (n + 1) c5) = V
    have HBV : Below w.heap.size w w4 := (HB1.out.trans (HB2.out.mono HB1.out.size)).trans (HC4.out.bel.mono HB1.out.size)
    obtain ⟨v1, v2', v3⟩ := one_set HQ0.out (Nat.le_refl _) HBV _ hV
    have v4' := (v3 (w.heap.size + 1) (by omega)).trans HQ1.out
    have HV1 := Lib.hid v1
    have HV4 := Lib.hid v4'
    have HVO : Hid (OwnN V W.heap.size (.slice A4 (n + 1) c5) (xs ++ [x])) := Lib.hid (HO4.out.keep (fun b hb => v3 b (by have := (HO4.out.lt hb).1; omega)))
    have x0 := cell_of_row V w.heap.size 0 _ _ (0, 0) v2'
    have x1 := cell_of_row V w.heap.size 1 _ _ (0, 0) v2'
    have y0 := cell_of_row V (w.heap.size + 1) 0 _ _ (0, 0) v4'
    have y1 := cell_of_row V (w.heap.size + 1) 1 _ _ (0, 0) v4'
    simp at x0 x1 y0 y1
    have f1 := fun j => frozen_of_row V (w.heap.size + 1) j _ _ v4'
    have hx0 : w.heap.size < V.heap.size := heap_lt v2'
    have hy0 : w.heap.size + 1 < V.heap.size := heap_lt v4'
    clear hV HBV v1 v2' v3 v4' z1 f0 hzl4
    go_wp2
    generalize hV : (V.setCell ⟨w.heap.size + 1, 0, none⟩ (.int .i64 (cap : Nat))).setCell ⟨w.heap.size + 1, 1, none⟩ (.slice A4 (n + 1) c5) = V2
    obtain ⟨g2, g3, g4, g5, g6⟩ := two_fin HV4.out (by omega) HV1.out _ _ hV
    refine bodyPost_ret (v := .tuple #[.agg #[.int .i64 (cap : Nat), .slice A4 (n + 1) c5], .bool true]) ?_ rfl ⟨_, rfl, (HVO.out.keep (fun b hb => g5 b (by have := (HVO.out.lt hb).1; omega))).mono (by have := HBB.out; omega), g2⟩
    simp [results, Try.results9, go_sem, g3, g4]
  · rw [if_neg (by rw [← hn]; exact hlt)]
    clear hs hW hb1 hO hn r0 r1 hb
    go_enter Try.func9, Try.ntmps9
    go_wp2_with fail
    obtain ⟨V, hV⟩ : ∃ V : World, V = (w.alloc (.cells #[.int .i64 (cap : Nat), .slice A n c] 27)).alloc (.cells #[.int .i64 (cap : Nat), .slice A n c] 27) := ⟨_, rfl⟩
    have g1 : Below w.heap.size w V := by rw [hV]; exact ((Below.refl _ w).alloc (Nat.le_refl _) _).alloc (by simp) _
    have r1 : V.heap[w.heap.size + 1]? = some (.cells #[.int .i64 (cap : Nat), .slice A n c] 27 (0, 0)) := by rw [hV]; exact two_new w _ _ _
    have c0 := cell_of_row V (w.heap.size + 1) 0 _ _ (0, 0) r1
    have c1 := cell_of_row V (w.heap.size + 1) 1 _ _ (0, 0) r1
    simp at c0 c1
    rw [← hV]
    refine bodyPost_ret (v := .tuple #[.agg #[.int .i64 (cap : Nat), .slice A n c], .bool false]) ?_ rfl ⟨_, rfl, HOO.out.below g1, g1⟩
    simp [results, Try.results9, go_sem, c0, c1]

end Go.Proofs.Ytadmacplpmahaaa
