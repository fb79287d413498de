/- The document's own queue: Get. -/
import Derived.Test.YtadmacplpmahaaaIal
set_option linter.unusedVariables false
set_option linter.unusedSimpArgs false
namespace Go.Proofs.Ytadmacplpmahaaa
open Go.RowKit

def RGet (w : World) (base cap : Nat) (xs : List Int) (e : Ending) (w' : World) : Prop :=
  ∃ u', e = .returned (.tuple #[.agg #[.int .i64 (cap : Nat), u'], .int .i64 (getM xs).2.1, .bool (getM xs).2.2]) ∧ OwnN w' base u' (getM xs).1 ∧ Below w.heap.size w w'
theorem lie_rest {w : World} {base g n c : Nat} {y : Int} {ys : List Int} (h : OwnN w base (.slice (some ⟨g, 0, none⟩) n c) (y :: ys)) : LieN w (.slice (some ⟨g, 1, none⟩) ys.length (c - 1)) ys ∧ 1 ≤ c ∧ c ≤ 9223372036854775807 := by
  rcases h.2 with ⟨h1, h2⟩ | ⟨g', cap, cur, hv, -, -, h1, h2, -⟩
  · cases h1
  · cases hv
    simp at h1
    unfold maxLen at h2
    refine ⟨⟨_, _, rfl, by omega, by omega, fun k hk => ⟨g, 1, rfl, ?_⟩⟩, by omega, by omega⟩
    obtain ⟨g', e, hc⟩ := h.cell (k + 1) (by simpa using hk)
    cases e
    rw [show 1 + k = 0 + (k + 1) from by omega, hc]
    rfl

set_option maxRecDepth 100000 in
set_option maxHeartbeats 2000000 in
theorem rget_any {w : World} {base cap : Nat} {u : Value} {xs : List Int} (hO : OwnN w base u xs) (hfit : xs.length ≤ 4) (hb : base ≤ w.heap.size) :
    Calls Try.prog 11 #[.agg #[.int .i64 (cap : Nat), u]] w (RGet w base cap xs) := by
  obtain ⟨A, c, hu⟩ := hO.form
  subst hu
  obtain ⟨W, hW⟩ : ∃ W : World, W = (w.alloc (.cells #[.int .i64 (cap : Nat), .slice A xs.length c] 27)).alloc (.cells #[.int .i64 0, .slice none 0 0] 27) := ⟨_, rfl⟩
  have hb1 : Below w.heap.size w W := by rw [hW]; exact ((Below.refl _ w).alloc (Nat.le_refl _) _).alloc (by simp) _
  have hs : W.heap.size = w.heap.size + 2 := by rw [hW]; simp
  have r0 : W.heap[w.heap.size]? = some (.cells #[.int .i64 (cap : Nat), .slice A xs.length c] 27 (0, 0)) := by rw [hW, heap_alloc_old _ _ (by simp), heap_alloc_new]
  have r1 : W.heap[w.heap.size + 1]? = some (.cells #[.int .i64 0, .slice none 0 0] 27 (0, 0)) := by rw [hW]; exact two_new w _ _ _
  have HW := Lib.hid hW
  have HB1 := Lib.hid hb1
  have HWS := Lib.hid hs
  have HR0 := Lib.hid r0
  have HR1 := Lib.hid r1
  have HOW := Lib.hid (hO.below hb1)
  have HOO := Lib.hid hO
  have HBB := Lib.hid hb
  have hzl : w.heap.size < W.heap.size := by omega
  have hyl : w.heap.size + 1 < W.heap.size := by omega
  unfold RGet getM
  cases xs with
  | nil =>
    clear hs hW hb1 hO r0 r1 hb
    go_enter Try.func11, Try.ntmps11
    go_wp2_with fail
    obtain ⟨V, hV⟩ : ∃ V : World, V = (w.alloc (.cells #[.int .i64 (cap : Nat), .slice A 0 c] 27)).alloc (.cells #[.int .i64 (cap : Nat), .slice A 0 c] 27) := ⟨_, rfl⟩
    have g1 : Below w.heap.size w V := by rw [hV]; exact ((Below.refl _ w).alloc (Nat.le_refl _) _).alloc (by simp) _
    have r1 : V.heap[w.heap.size + 1]? = some (.cells #[.int .i64 (cap : Nat), .slice A 0 c] 27 (0, 0)) := by rw [hV]; exact two_new w _ _ _
    have c0 := cell_of_row V (w.heap.size + 1) 0 _ _ (0, 0) r1
    have c1 := cell_of_row V (w.heap.size + 1) 1 _ _ (0, 0) r1
    simp at c0 c1
    rw [← hV]
    refine bodyPost_ret (v := .tuple #[.agg #[.int .i64 (cap : Nat), .slice A 0 c], .int .i64 0, .bool false]) ?_ rfl ⟨_, rfl, HOO.out.below g1, g1⟩
    simp [results, Try.results11, go_sem, c0, c1]
  | cons y ys =>
    obtain ⟨g, rfl, hcell⟩ := hO.cell 0 (by simp)
    have hgl : g < w.heap.size := (hO.lt (b := g) rfl).2
    obtain ⟨n, hn⟩ : ∃ n, n = ys.length := ⟨_, rfl⟩
    have HN := Lib.hid hn
    have hn4 : n + 1 ≤ 4 := by simpa [hn] using hfit
    simp only [List.length_cons, ← hn] at HW HR0 HOW HOO r0 ⊢
    have hcw : (w.alloc (.cells #[.int .i64 (cap : Nat), .slice (some ⟨g, 0, none⟩) (n + 1) c] 27)).cell? ⟨g, 0, none⟩ = some (.int .i64 y) := (World.cell?_of_block (Below.heap_alloc _ _ _ hgl)).trans hcell
    have hcW : W.cell? ⟨g, 0, none⟩ = some (.int .i64 y) := (hb1.cell (p := ⟨g, 0, none⟩) hgl).trans hcell
    obtain ⟨hl, hc1, hc2⟩ := lie_rest HOW.out
    have z0 := cell_of_row W w.heap.size 0 _ _ (0, 0) r0
    have z1 := cell_of_row W w.heap.size 1 _ _ (0, 0) r0
    simp at z0 z1
    have hnc : n + 1 ≤ c := by
      rcases HOO.out.2 with ⟨h1, -⟩ | ⟨g', cap', cur, hv, -, -, h1, -⟩
      · cases h1
      · cases hv
        have := HN.out
        simpa [this] using h1
    by_cases hce : c = 1
    · subst hce
      have hn0 : ys = [] := List.eq_nil_of_length_eq_zero (by omega)
      have HCP : Hid (Calls Try.prog 17 #[.slice (some ⟨g, 0, none⟩) 0 0] W (CopyN W ys)) := Lib.hid (rcopy_any ⟨_, _, by rw [hn0]; rfl, by rw [hn0]; exact Nat.le_refl _, by omega, fun k hk => by rw [hn0] at hk; simp at hk⟩ (by omega) (fun A' n' c' e => by
        cases e
        show g < W.heap.size
        omega))
      clear hs hW hb1 hO r0 r1 hb hn hl hfit hn0
      go_enter Try.func11, Try.ntmps11
      go_wp2_with fail
      rw [← HW.out]
      refine HCP.out.mono ?_
      rintro e w2 ⟨v2, rfl, o2, b2⟩
      obtain ⟨A4, c5, hv2⟩ := o2.form_n HN.out.symm
      subst hv2
      have q0 := (b2.block _ hzl).trans HR0.out
      have q1 := (b2.block _ hyl).trans HR1.out
      have HQ0 := Lib.hid q0
      have HQ1 := Lib.hid q1
      have HO4 := Lib.hid o2
      have HB2 := Lib.hid b2
      have z1' := cell_of_row w2 w.heap.size 1 _ _ (0, 0) q0
      simp at z1'
      have f0 := fun j => frozen_of_row w2 w.heap.size j _ _ q0
      have hzl4 : w.heap.size < w2.heap.size := heap_lt q0
      clear q0 q1 o2 b2 z0 z1 HCP hcell hcw hcW
      go_upto_region 5 with fail
      generalize hV : w2.setCell ⟨w.heap.size, 1, none⟩ (.slice A4 n c5) = V
      have HBV : Below w.heap.size w w2 := HB1.out.trans (HB2.out.mono HB1.out.size)
      obtain ⟨v1, v2', v3⟩ := one_set HQ0.out (Nat.le_refl _) HBV _ hV
      have v4' := (v3 (w.heap.size + 1) (by omega)).trans HQ1.out
      have HV1 := Lib.hid v1
      have HV4 := Lib.hid v4'
      have HVO : Hid (OwnN V W.heap.size (.slice A4 n c5) ys) := Lib.hid (HO4.out.keep (fun b hb => v3 b (by have := (HO4.out.lt hb).1; omega)))
      have x0 := cell_of_row V w.heap.size 0 _ _ (0, 0) v2'
      have x1 := cell_of_row V w.heap.size 1 _ _ (0, 0) v2'
      have y0 := cell_of_row V (w.heap.size + 1) 0 _ _ (0, 0) v4'
      have y1 := cell_of_row V (w.heap.size + 1) 1 _ _ (0, 0) v4'
      simp at x0 x1 y0 y1
      have f1 := fun j => frozen_of_row V (w.heap.size + 1) j _ _ v4'
      have hx0 : w.heap.size < V.heap.size := heap_lt v2'
      have hy0 : w.heap.size + 1 < V.heap.size := heap_lt v4'
      clear hV HBV v1 v2' v3 v4' z1' f0 hzl4
      go_wp2
      generalize hV : (V.setCell ⟨w.heap.size + 1, 0, none⟩ (.int .i64 (cap : Nat))).setCell ⟨w.heap.size + 1, 1, none⟩ (.slice A4 n c5) = V2
      obtain ⟨g2, g3, g4, g5, g6⟩ := two_fin HV4.out (by omega) HV1.out _ _ hV
      refine bodyPost_ret (v := .tuple #[.agg #[.int .i64 (cap : Nat), .slice A4 n c5], .int .i64 y, .bool true]) ?_ rfl ⟨_, rfl, (HVO.out.keep (fun b hb => g5 b (by have := (HVO.out.lt hb).1; omega))).mono (by have := HBB.out; omega), g2⟩
      simp [results, Try.results11, go_sem, g3, g4]
    · rw [← hn] at hl
      have HCP := Lib.hid (rcopy_any hl (by omega) (fun A' n' c' e => by
        cases e
        show g < W.heap.size
        omega))
      clear hs hW hb1 hO r0 r1 hb hn hl hfit
      go_enter Try.func11, Try.ntmps11
      go_wp2_with fail
      rw [← HW.out]
      refine HCP.out.mono ?_
      rintro e w2 ⟨v2, rfl, o2, b2⟩
      obtain ⟨A4, c5, hv2⟩ := o2.form_n HN.out.symm
      subst hv2
      have q0 := (b2.block _ hzl).trans HR0.out
      have q1 := (b2.block _ hyl).trans HR1.out
      have HQ0 := Lib.hid q0
      have HQ1 := Lib.hid q1
      have HO4 := Lib.hid o2
      have HB2 := Lib.hid b2
      have z1' := cell_of_row w2 w.heap.size 1 _ _ (0, 0) q0
      simp at z1'
      have f0 := fun j => frozen_of_row w2 w.heap.size j _ _ q0
      have hzl4 : w.heap.size < w2.heap.size := heap_lt q0
      clear q0 q1 o2 b2 z0 z1 HCP hcell hcw hcW
      go_upto_region 5 with fail
      generalize hV : w2.setCell ⟨w.heap.size, 1, none⟩ (.slice A4 n c5) = V
      have HBV : Below w.heap.size w w2 := HB1.out.trans (HB2.out.mono HB1.out.size)
      obtain ⟨v1, v2', v3⟩ := one_set HQ0.out (Nat.le_refl _) HBV _ hV
      have v4' := (v3 (w.heap.size + 1) (by omega)).trans HQ1.out
      have HV1 := Lib.hid v1
      have HV4 := Lib.hid v4'
      have HVO : Hid (OwnN V W.heap.size (.slice A4 n c5) ys) := Lib.hid (HO4.out.keep (fun b hb => v3 b (by have := (HO4.out.lt hb).1; omega)))
      have x0 := cell_of_row V w.heap.size 0 _ _ (0, 0) v2'
      have x1 := cell_of_row V w.heap.size 1 _ _ (0, 0) v2'
      have y0 := cell_of_row V (w.heap.size + 1) 0 _ _ (0, 0) v4'
      have y1 := cell_of_row V (w.heap.size + 1) 1 _ _ (0, 0) v4'
      simp at x0 x1 y0 y1
      have f1 := fun j => frozen_of_row V (w.heap.size + 1) j _ _ v4'
      have hx0 : w.heap.size < V.heap.size := heap_lt v2'
      have hy0 : w.heap.size + 1 < V.heap.size := heap_lt v4'
      clear hV HBV v1 v2' v3 v4' z1' f0 hzl4
      go_wp2
      generalize hV : (V.setCell ⟨w.heap.size + 1, 0, none⟩ (.int .i64 (cap : Nat))).setCell ⟨w.heap.size + 1, 1, none⟩ (.slice A4 n c5) = V2
      obtain ⟨g2, g3, g4, g5, g6⟩ := two_fin HV4.out (by omega) HV1.out _ _ hV
      refine bodyPost_ret (v := .tuple #[.agg #[.int .i64 (cap : Nat), .slice A4 n c5], .int .i64 y, .bool true]) ?_ rfl ⟨_, rfl, (HVO.out.keep (fun b hb => g5 b (by have := (HVO.out.lt hb).1; omega))).mono (by have := HBB.out; omega), g2⟩
      simp [results, Try.results11, go_sem, g3, g4]

end Go.Proofs.Ytadmacplpmahaaa
